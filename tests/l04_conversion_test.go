package tests

import (
	"math"
	"slices"
	"strconv"
	"strings"
	"testing"

	"loop.example/g00904/impl"
)

func TestP5RangesOfTypes(t *testing.T) {
	for text, want := range map[string][2]int64{
		"i1": {-128, 127}, "u1": {0, 255}, "i2": {-32768, 32767}, "i2b": {-32768, 32767}, "u2": {0, 65535}, "u2b": {0, 65535},
		"i4": {-2147483648, 2147483647}, "i4b": {-2147483648, 2147483647}, "u4": {0, 4294967295}, "u4b": {0, 4294967295},
		"i8": {math.MinInt64, math.MaxInt64}, "i8b": {math.MinInt64, math.MaxInt64}, "ref": {0, 65535},
		"enum(i1,A=5)": {5, 5}, "enum(i1,A=-3,B=0,C=9)": {-3, 9}, "enum(u4b,A=1,B=4294967295)": {1, 4294967295},
		"enum(i8,A=-9223372036854775808,B=9223372036854775807)": {math.MinInt64, math.MaxInt64}, "enum(i8b,A=-9223372036854775808)": {math.MinInt64, math.MinInt64},
	} {
		low, high, ok := impl.RangeOfType(mustType(t, text))
		check(t, "range of "+text, []any{low, high, ok}, []any{want[0], want[1], true})
	}
	for _, x := range append(typesWithoutNumbers(t), badTypes()...) {
		low, high, ok := impl.RangeOfType(x)
		check(t, "range of "+impl.TypeText(x), []any{low, high, ok}, []any{int64(0), int64(0), false})
	}
}

func typesWithoutNumbers(t *testing.T) []impl.Type {
	var list []impl.Type
	for _, text := range []string{"text(1)", "text(2)", "text(16)", "record(1,A@0:u1)", "record(2,A@0:ref)", "array(1,u1)", "array(2,enum(u1,A=3))"} {
		list = append(list, mustType(t, text))
	}
	return list
}

func TestP5ClampedNumbers(t *testing.T) {
	var list []impl.Type
	for _, x := range append(allInts(), refType()) {
		list = append(list, x)
		if x.Kind == impl.TyInt {
			low, high := intLimits(x)
			list = append(list, enumType(x, []string{"A", "B"}, []int64{low, high}), enumType(x, []string{"A", "B", "C", "D"}, []int64{low, low/2 + high/2, high - 2, high}))
		}
	}
	for _, text := range []string{"enum(i1,A=0,B=10)", "enum(i1,A=0,B=11)", "enum(i1,A=7)", "enum(i4,A=-10,B=-5,C=5,D=6,E=100,F=1000)", "enum(i8,A=-1,B=0)", "enum(i8,A=9223372036854775807)", "enum(i8,A=-9223372036854775808)"} {
		list = append(list, mustType(t, text))
	}
	for _, x := range list {
		for _, n := range append(oddNumbers(), -11, -10, -9, -8, -7, -6, -5, 5, 6, 53, 54, 550, 551) {
			checkClamped(t, x, n, nearestNumberOf(x, n))
		}
	}
	for _, x := range append(typesWithoutNumbers(t), badTypes()...) {
		for _, n := range []int64{math.MinInt64, -1, 0, 1, 300, math.MaxInt64} {
			got, ok := impl.ClampNumber(x, n)
			check(t, "clamped to "+impl.TypeText(x), []any{got, ok}, []any{int64(0), false})
		}
	}
}

func checkClamped(t *testing.T, x impl.Type, n, want int64) {
	t.Helper()
	got, ok := impl.ClampNumber(x, n)
	check(t, strconv.FormatInt(n, 10)+" clamped to "+impl.TypeText(x), []any{got, ok}, []any{want, true})
}

func TestP5ClampedNumbersByHand(t *testing.T) {
	for text, list := range map[string][][2]int64{
		"u1":                {{-1, 0}, {0, 0}, {255, 255}, {256, 255}, {math.MinInt64, 0}, {math.MaxInt64, 255}},
		"i1":                {{-129, -128}, {-128, -128}, {127, 127}, {128, 127}, {5, 5}},
		"i8":                {{math.MinInt64, math.MinInt64}, {math.MaxInt64, math.MaxInt64}, {-1, -1}},
		"ref":               {{-1, 0}, {65535, 65535}, {65536, 65535}},
		"enum(i1,A=0,B=10)": {{-1, 0}, {0, 0}, {4, 0}, {5, 0}, {6, 10}, {10, 10}, {11, 10}, {math.MinInt64, 0}, {math.MaxInt64, 10}},
		"enum(i8,A=-9223372036854775808,B=9223372036854775807)":     {{-1, math.MinInt64}, {0, math.MaxInt64}, {-2, math.MinInt64}, {1, math.MaxInt64}},
		"enum(i8,A=-9223372036854775808,B=0,C=9223372036854775807)": {{-1 << 62, math.MinInt64}, {-1<<62 + 1, 0}, {1 << 62, math.MaxInt64}, {1<<62 - 1, 0}},
		"enum(i8,A=-9223372036854775808,B=9223372036854775806)":     {{-1, math.MinInt64}, {0, math.MaxInt64 - 1}},
	} {
		for _, c := range list {
			checkClamped(t, mustType(t, text), c[0], c[1])
		}
	}
}

func TestP5KindsThatAreConvertible(t *testing.T) {
	kinds := []string{"i4", "text(4)", "enum(i1,A=1)", "record(1,A@0:i1)", "array(2,i1)", "ref"}
	for i, from := range kinds {
		for j, to := range kinds {
			numbers := (i == 0 || i == 2) && (j == 0 || j == 2)
			checkConvertible(t, from, to, i == j || numbers)
			checkConvertible(t, "array(2,"+from+")", "array(2,"+to+")", i == j || numbers)
			checkConvertible(t, "array(2,"+from+")", "array(1,"+to+")", false)
			checkConvertible(t, "record(16,A@1:"+from+")", "record(17,B@0:i1,A@3:"+to+")", i == j || numbers)
			checkConvertible(t, "record(16,A@1:"+from+")", "record(17,B@0:i1,a@3:"+to+")", true)
		}
	}
}

func checkConvertible(t *testing.T, from, to string, want bool) {
	t.Helper()
	source, target := mustType(t, from), mustType(t, to)
	check(t, from+" is convertible to "+to, impl.Convertible(source, target), want)
	if !want {
		checkNotConvertible(t, source, target)
	}
}

// checkNotConvertible checks all functions with valid types that are not convertible.
func checkNotConvertible(t *testing.T, from, to impl.Type) {
	t.Helper()
	what := impl.TypeText(from) + " to " + impl.TypeText(to)
	check(t, what+" always", impl.AlwaysConverts(from, to), false)
	zero := zeroElementOf(from)
	for _, clamp := range []bool{false, true} {
		b, code := impl.ConvertElement(from, to, zero, clamp)
		check(t, what, []any{b, code}, []any{"", int64(impl.ErrType)})
		b, code = impl.ConvertElement(from, to, zero+zero, clamp)
		check(t, what+" of no element", []any{b, code}, []any{"", int64(impl.ErrInvalid)})
		for _, data := range []string{"", zero, zero + zero} {
			b, code = impl.ConvertBytes(from, to, data, clamp)
			check(t, what+" of data", []any{b, code}, []any{"", int64(impl.ErrType)})
		}
		b, code = impl.ConvertBytes(from, to, zero+"\x00"+zero, clamp)
		if len(zero) > 1 {
			check(t, what+" of no data", []any{b, code}, []any{"", int64(impl.ErrInvalid)})
		}
	}
}

func TestP5CompoundsThatAreConvertible(t *testing.T) {
	for _, c := range []struct {
		from, to string
		want     bool
	}{
		{"record(2,A@0:i1,B@1:i1)", "record(2,B@0:i1,A@1:i1)", true},
		{"record(2,A@0:i1,B@1:i1)", "record(1,C@0:i1)", true},
		{"record(2,A@0:i1,B@1:text(1))", "record(1,A@0:u1)", true},
		{"record(2,A@0:i1,B@1:text(1))", "record(2,A@0:u1,B@1:u1)", false},
		{"record(2,A@0:i1,B@1:text(1))", "record(2,A@0:u1,b@1:u1)", true},
		{"record(2,A@0:i1,B@1:text(1))", "record(3,A@0:text(1),B@1:text(2))", false},
		{"record(2,A@0:record(2,B@0:i1))", "record(2,A@0:record(2,B@0:text(1)))", false},
		{"record(2,A@0:record(2,B@0:i1))", "record(2,A@0:record(2,C@0:text(1)))", true},
		{"record(2,A@0:record(2,B@0:i1))", "record(2,B@0:text(1))", true},
		{"record(2,A@0:array(2,i1))", "record(8,A@0:array(2,i4))", true},
		{"record(2,A@0:array(2,i1))", "record(8,A@0:array(1,i4))", false},
		{"array(2,record(1,A@0:i1))", "array(2,record(1,A@0:text(1)))", false},
		{"array(2,record(1,A@0:i1))", "array(2,record(1,B@0:text(1)))", true},
		{"array(2,array(2,i1))", "array(2,array(2,enum(i2b,A=1)))", true},
		{"array(2,array(2,i1))", "array(2,array(1,i1))", false},
		{"array(2,array(2,i1))", "array(4,i1)", false},
		{"array(1,i1)", "i1", false}, {"i1", "array(1,i1)", false}, {"record(1,A@0:i1)", "i1", false},
	} {
		checkConvertible(t, c.from, c.to, c.want)
	}
}

func TestP5InvalidTypesAreNotConvertible(t *testing.T) {
	good := []impl.Type{intType(1, true, false), textType(1), refType(), enumType(intType(1, true, false), []string{"A"}, []int64{1}),
		compoundType(1, member("A", 0, intType(1, true, false))), arrayType(1, intType(1, true, false))}
	for _, bad := range badTypes() {
		for _, x := range good {
			checkInvalidConversion(t, bad, x)
			checkInvalidConversion(t, x, bad)
		}
		checkInvalidConversion(t, bad, bad)
		for _, data := range []string{"", "\x00", "\x00\x00"} {
			swapped, b, ok := impl.SwapOrder(bad, data)
			check(t, "swapped", []any{swapped, b, ok}, []any{impl.Type{}, "", false})
		}
	}
}

func checkInvalidConversion(t *testing.T, from, to impl.Type) {
	t.Helper()
	check(t, "convertible", []bool{impl.Convertible(from, to), impl.AlwaysConverts(from, to)}, []bool{false, false})
	for _, data := range []string{"", "\x00", "\x01", "\x00\x00", strings.Repeat("\x00", 24)} {
		for _, clamp := range []bool{false, true} {
			b, code := impl.ConvertElement(from, to, data, clamp)
			check(t, "converted", []any{b, code}, []any{"", int64(impl.ErrInvalid)})
			b, code = impl.ConvertBytes(from, to, data, clamp)
			check(t, "converted data", []any{b, code}, []any{"", int64(impl.ErrInvalid)})
		}
	}
}

func TestP5TypesThatAlwaysConvert(t *testing.T) {
	for _, c := range []struct {
		from, to string
		want     bool
	}{
		{"i2", "i4", true}, {"u1", "i2", true}, {"i2", "u4", false}, {"i2", "i2b", true}, {"i8", "i8b", true}, {"u4", "i4", false}, {"u4b", "i8", true}, {"i8", "i4", false}, {"i1", "u1", false}, {"u1", "i1", false},
		{"i1", "enum(i1,A=1)", false}, {"u1", "enum(i1,A=0,B=1,C=2,D=3,E=4,F=5)", false}, {"u1", "enum(u1,A=0,B=255)", false}, {"i8", "enum(i8,A=-9223372036854775808,B=9223372036854775807)", false},
		{"enum(i4,A=-128,B=127)", "i1", true}, {"enum(i4,A=-129)", "i1", false}, {"enum(i4,A=128)", "i1", false}, {"enum(i4,A=0,B=255)", "u1", true}, {"enum(i4,A=-1,B=255)", "u1", false}, {"enum(i4,A=0,B=256)", "u1", false},
		{"enum(i8,A=0,B=4294967296)", "u4b", false}, {"enum(i8,A=0,B=4294967295)", "u4b", true}, {"enum(i1,A=-1)", "i8b", true},
		{"enum(i1,A=1,B=2)", "enum(u4b,B=7,C=8,A=9)", true}, {"enum(i1,A=1,B=2)", "enum(i1,A=1)", false}, {"enum(i1,A=1,B=2)", "enum(i1,a=1,b=2)", false}, {"enum(i1,A=1,B=2)", "enum(i1,B=1)", false},
		{"text(3)", "text(3)", true}, {"text(3)", "text(4)", true}, {"text(3)", "text(2)", false}, {"text(16)", "text(1)", false}, {"text(1)", "text(16)", true}, {"ref", "ref", true}, {"ref", "u2", false}, {"u2", "ref", false},
		{"record(3,A@0:i1,B@1:i2)", "record(1,A@0:i1)", true}, {"record(3,A@0:i1,B@1:i2)", "record(1,B@0:i1)", false}, {"record(3,A@0:i1,B@1:i2)", "record(2,A@0:u1,C@1:i1)", false},
		{"record(3,A@0:i1,B@1:i2)", "record(4,C@0:u1)", true}, {"record(3,A@0:i1,B@1:i2)", "record(9,B@0:i4,A@4:i2b)", true}, {"record(3,A@0:i1,B@1:i2)", "record(9,B@0:i4,A@4:text(1))", false},
		{"record(3,A@0:i1,B@1:i2)", "record(2,B@0:i1,A@1:i1)", false}, {"record(3,A@0:i1,B@1:i2)", "record(3,B@0:i2,A@2:u1)", false},
		{"record(2,A@0:record(2,B@0:i1,C@1:i1))", "record(9,A@0:record(9,C@0:i2))", true}, {"record(2,A@0:record(2,B@0:i1,C@1:i1))", "record(9,A@0:record(9,C@0:u2))", false},
		{"array(2,i1)", "array(2,i2)", true}, {"array(2,i1)", "array(2,u2)", false}, {"array(2,i1)", "array(3,i2)", false}, {"array(2,array(2,u1))", "array(2,array(2,i2))", true}, {"array(2,array(2,u1))", "array(2,array(2,i1))", false},
		{"i2", "text(2)", false}, {"array(1,i1)", "i1", false},
	} {
		check(t, c.from+" always converts to "+c.to, impl.AlwaysConverts(mustType(t, c.from), mustType(t, c.to)), c.want)
	}
}

// writtenConversions were written by hand: from, bytes, to, bytes without clamp
// ("fails" if there are none), bytes with clamp.
var writtenConversions = [][5]string{
	{"i4", "\x2c\x01\x00\x00", "u1", "fails", "\xff"}, {"i4", "\x2c\x01\x00\x00", "i1", "fails", "\x7f"}, {"i4", "\x2c\x01\x00\x00", "u2b", "\x01\x2c", "\x01\x2c"},
	{"i4", "\xff\xff\xff\xff", "u1", "fails", "\x00"}, {"i4", "\xff\xff\xff\xff", "i2b", "\xff\xff", "\xff\xff"}, {"i4", "\xff\xff\xff\xff", "u4", "fails", "\x00\x00\x00\x00"},
	{"u4", "\xff\xff\xff\xff", "i8", "\xff\xff\xff\xff\x00\x00\x00\x00", "\xff\xff\xff\xff\x00\x00\x00\x00"}, {"u4", "\xff\xff\xff\xff", "i4", "fails", "\xff\xff\xff\x7f"},
	{"u1", "\xff", "i1", "fails", "\x7f"}, {"i1", "\x80", "u1", "fails", "\x00"}, {"i1", "\x80", "i8b", "\xff\xff\xff\xff\xff\xff\xff\x80", "\xff\xff\xff\xff\xff\xff\xff\x80"},
	{"i8b", "\x80\x00\x00\x00\x00\x00\x00\x00", "i4", "fails", "\x00\x00\x00\x80"}, {"i8", "\xff\xff\xff\xff\xff\xff\xff\x7f", "u4b", "fails", "\xff\xff\xff\xff"},
	{"i1", "\x01", "enum(i1,A=1,B=10)", "\x01", "\x01"}, {"i1", "\x05", "enum(i1,A=0,B=10)", "fails", "\x00"}, {"i1", "\x06", "enum(i1,A=0,B=10)", "fails", "\x0a"},
	{"i1", "\xff", "enum(u1,A=0,B=255)", "fails", "\x00"}, {"u1", "\xff", "enum(i1,A=-1,B=0)", "fails", "\x00"}, {"i8", "\x00\x00\x00\x00\x00\x00\x00\x80", "enum(i1,A=-1,B=0)", "fails", "\xff"},
	{"enum(i2,A=1,B=300)", "\x2c\x01", "u1", "fails", "\xff"}, {"enum(i2,A=1,B=300)", "\x01\x00", "u1", "\x01", "\x01"}, {"enum(i2,A=-1,B=300)", "\xff\xff", "i4b", "\xff\xff\xff\xff", "\xff\xff\xff\xff"},
	{"enum(i1,A=0,B=10)", "\x00", "enum(u1,B=1,A=2)", "\x02", "\x02"}, {"enum(i1,A=0,B=10)", "\x0a", "enum(i2b,B=257,A=512)", "\x01\x01", "\x01\x01"},
	{"enum(i1,A=0,B=10)", "\x0a", "enum(i1,A=4,C=10)", "fails", "\x0a"}, {"enum(i1,A=0,B=10)", "\x0a", "enum(i1,A=4,C=16)", "fails", "\x04"}, {"enum(i1,A=0,B=10)", "\x0a", "enum(i1,A=4,C=15)", "fails", "\x0f"},
	{"enum(i1,A=0,B=10)", "\x0a", "enum(i1,b=10)", "fails", "\x0a"}, {"enum(i1,A=-128)", "\x80", "enum(u4,B=3,C=9)", "fails", "\x03\x00\x00\x00"},
	{"text(3)", "ab\x00", "text(2)", "ab", "ab"}, {"text(3)", "abc", "text(2)", "fails", "ab"}, {"text(3)", "abc", "text(5)", "abc\x00\x00", "abc\x00\x00"}, {"text(3)", "\x00\x00\x00", "text(1)", "\x00", "\x00"},
	{"text(3)", "ab\x00", "text(1)", "fails", "a"}, {"text(1)", "\xff", "text(16)", "\xff" + strings.Repeat("\x00", 15), "\xff" + strings.Repeat("\x00", 15)},
	{"text(16)", "0123456789abcdef", "text(1)", "fails", "0"}, {"text(16)", "0123456789abcdef", "text(15)", "fails", "0123456789abcde"}, {"text(2)", "ab", "text(2)", "ab", "ab"},
	{"ref", "\x01\x02", "ref", "\x01\x02", "\x01\x02"}, {"ref", "\xff\xff", "ref", "\xff\xff", "\xff\xff"},
	{"record(3,X@0:i1,Y@1:u2)", "\x05\x02\x01", "record(6,Y@0:u4,Z@4:enum(i2,P=7))", "\x02\x01\x00\x00\x07\x00", "\x02\x01\x00\x00\x07\x00"},
	{"record(3,X@0:i1,Y@1:u2)", "\x05\x02\x01", "record(5,Y@1:u1,X@3:i1)", "fails", "\x00\xff\x00\x05\x00"}, {"record(3,X@0:i1,Y@1:u2)", "\xff\x02\x00", "record(5,Y@1:u1,X@3:u1)", "fails", "\x00\x02\x00\x00\x00"},
	{"record(3,X@0:i1,Y@1:u2)", "\x05\x02\x01", "record(2,x@1:u1)", "\x00\x00", "\x00\x00"}, {"record(6,X@2:i1,Y@4:u1)", "\x00\x00\x05\x00\x06\x00", "record(2,X@0:i1,Y@1:u1)", "\x05\x06", "\x05\x06"},
	{"record(2,X@0:i1,Y@1:u1)", "\x05\x06", "record(6,Y@2:u1,X@4:i1)", "\x00\x00\x06\x00\x05\x00", "\x00\x00\x06\x00\x05\x00"},
	{"record(2,A@0:record(2,B@1:u1))", "\x00\x07", "record(5,A@1:record(3,C@0:enum(u1,P=3),B@1:u2b),D@4:text(1))", "\x00\x03\x00\x07\x00", "\x00\x03\x00\x07\x00"},
	{"array(2,i2)", "\x01\x00\xff\xff", "array(2,i1)", "\x01\xff", "\x01\xff"}, {"array(2,i2)", "\x01\x00\xff\xff", "array(2,u1)", "fails", "\x01\x00"}, {"array(2,i2)", "\x2c\x01\x01\x00", "array(2,u1)", "fails", "\xff\x01"},
	{"array(2,text(2))", "abc\x00", "array(2,text(1))", "fails", "ac"}, {"array(2,text(2))", "a\x00c\x00", "array(2,text(1))", "ac", "ac"},
	{"array(2,array(2,u1))", "\x01\x02\x03\x04", "array(2,array(2,u2b))", "\x00\x01\x00\x02\x00\x03\x00\x04", "\x00\x01\x00\x02\x00\x03\x00\x04"},
	{"array(2,record(2,A@1:u1))", "\x00\x01\x00\x02", "array(2,record(2,A@0:u1,B@1:enum(u1,P=9)))", "\x01\x09\x02\x09", "\x01\x09\x02\x09"},
}

func TestP5WrittenConversions(t *testing.T) {
	for _, c := range writtenConversions {
		from, to := mustType(t, c[0]), mustType(t, c[2])
		b, code := impl.ConvertElement(from, to, c[1], false)
		want := []any{c[3], int64(impl.OK)}
		if c[3] == "fails" {
			want = []any{"", int64(impl.ErrConvert)}
		}
		check(t, c[0]+" to "+c[2], []any{b, code}, want)
		b, code = impl.ConvertElement(from, to, c[1], true)
		check(t, c[0]+" to "+c[2]+" with clamp", []any{b, code}, []any{c[4], int64(impl.OK)})
	}
}

// checkConversion checks the conversion of an element of a type that is convertible to another one.
func checkConversion(t *testing.T, from, to impl.Type, b string) {
	t.Helper()
	what := impl.TypeText(from) + " " + impl.ElementText(from, b) + " to " + impl.TypeText(to)
	for _, clamp := range []bool{false, true} {
		want, ok := convertElementOf(from, to, b, clamp)
		code := int64(impl.OK)
		if !ok && !clamp {
			want, code = "", impl.ErrConvert
		}
		got, gotCode := impl.ConvertElement(from, to, b, clamp)
		check(t, what, []any{got, gotCode}, []any{want, code})
		got, gotCode = impl.ConvertBytes(from, to, b, clamp)
		check(t, what+" as data", []any{got, gotCode}, []any{want, code})
		if code == impl.OK {
			check(t, what+" is an element", impl.ValidElement(to, got), true)
		}
	}
}

func TestP5ConvertedNumbers(t *testing.T) {
	list := append(allInts(), mustType(t, "enum(i1,A=-128,B=0,C=127)"), mustType(t, "enum(u2b,A=0,C=255,B=256,D=65535)"), mustType(t, "enum(i8,B=-9223372036854775808,A=9223372036854775807)"),
		mustType(t, "enum(u1,E=7)"), mustType(t, "enum(i4,D=-1,E=1)"))
	for _, from := range list {
		form, _ := numberForm(from)
		for _, to := range list {
			low, high := intLimits(to)
			for _, n := range append(oddNumbers(), low-1, low, high, high+1) {
				if hasNumber(from, n) {
					checkConversion(t, from, to, bytesOfNumber(form, n))
				}
			}
		}
	}
}

func TestP5DrawnConversions(t *testing.T) {
	m := newTypeMaker(21)
	fails, converted, always := 0, 0, 0
	for range 6000 {
		from := m.draw(3, 24)
		to := m.drawRelated(from)
		what := impl.TypeText(from) + " to " + impl.TypeText(to)
		check(t, what+" convertible", impl.Convertible(from, to), true)
		list := extremeElements(from)
		for range 3 {
			b, _ := m.drawElement(from)
			list = append(list, b)
		}
		failing := 0
		for _, b := range list {
			checkConversion(t, from, to, b)
			if _, ok := convertElementOf(from, to, b, false); !ok {
				failing++
			}
		}
		// The extreme elements contain one that fails, if there is any.
		check(t, what+" always", impl.AlwaysConverts(from, to), failing == 0)
		fails += failing
		converted += len(list) - failing
		if failing == 0 {
			always++
		}
	}
	if fails < 5000 || converted < 5000 || always < 500 {
		t.Errorf("%d elements failed, %d were converted, and %d types always convert", fails, converted, always)
	}
}

// Whether types always convert is known when all elements have been tried.
func TestP5AlwaysMeansEveryElement(t *testing.T) {
	var list []impl.Type
	for _, text := range []string{"i1", "u1", "i2", "u2b", "i8", "enum(i1,A=-1,B=0)", "enum(u1,A=0,B=255)", "enum(i2,B=-1,A=0,C=255)", "enum(i4,C=0)", "enum(i1,A=0,D=2)"} {
		list = append(list, mustType(t, text))
	}
	for _, from := range list {
		form, _ := numberForm(from)
		low, high := intLimits(form)
		if form.Size > 2 {
			continue
		}
		for _, to := range list {
			all := true
			for n := low; n <= high && all; n++ {
				if hasNumber(from, n) {
					_, code := impl.ConvertElement(from, to, bytesOfNumber(form, n), false)
					all = code == impl.OK
				}
			}
			check(t, impl.TypeText(from)+" to "+impl.TypeText(to), impl.AlwaysConverts(from, to), all)
		}
	}
}

func TestP5EveryTypeConvertsToItself(t *testing.T) {
	m := newTypeMaker(22)
	for range 2000 {
		x := m.draw(3, 24)
		check(t, "to itself", []bool{impl.Convertible(x, x), impl.AlwaysConverts(x, x)}, []bool{true, true})
		data, _ := m.drawElements(x)
		for _, clamp := range []bool{false, true} {
			same, code := impl.ConvertBytes(x, x, data, clamp)
			check(t, "to itself", []any{same, code}, []any{data, int64(impl.OK)})
		}
		// Only the gaps are lost.
		packed := impl.PackedType(x)
		less, code := impl.ConvertBytes(x, packed, data, false)
		check(t, "packed", []any{len(less) * int(sizeOf(x)), code}, []any{len(data) * int(sizeOf(packed)), int64(impl.OK)})
		back, code := impl.ConvertBytes(packed, x, less, false)
		check(t, "unpacked", []any{back, code}, []any{data, int64(impl.OK)})
	}
}

func TestP5StringsThatAreNoElements(t *testing.T) {
	m := newTypeMaker(23)
	for range 1500 {
		from := m.draw(3, 24)
		to := m.drawRelated(from)
		b, _ := m.drawElement(from)
		for _, s := range []string{"", b[1:], b + "\x00", b + b, strings.Repeat("\xff", len(b)), b[:len(b)-1] + "\x80", strings.Repeat("\x80", len(b))} {
			if isElementOf(from, s) {
				continue
			}
			for _, clamp := range []bool{false, true} {
				for _, other := range []impl.Type{to, m.draw(3, 24)} {
					got, code := impl.ConvertElement(from, other, s, clamp)
					check(t, "no element", []any{got, code}, []any{"", int64(impl.ErrInvalid)})
				}
			}
		}
	}
}

func TestP5OrderOfErrors(t *testing.T) {
	u2, i1, text := mustType(t, "u2"), mustType(t, "i1"), mustType(t, "text(2)")
	small := mustType(t, "enum(u1,A=1,B=200)")
	for _, c := range []struct {
		from, to impl.Type
		data     string
		clamp    bool
		want     string
		code     int64
	}{
		{u2, i1, "\x01\x00\x02\x00", false, "\x01\x02", impl.OK}, {u2, i1, "\x01\x00\x80\x00", false, "", impl.ErrConvert}, {u2, i1, "\x80\x00\x01\x00", false, "", impl.ErrConvert},
		{u2, i1, "\x01\x00\x80\x00", true, "\x01\x7f", impl.OK}, {u2, i1, "\x80\x00\x01", false, "", impl.ErrInvalid}, {u2, i1, "\x01", true, "", impl.ErrInvalid}, {u2, i1, "", false, "", impl.OK},
		{u2, text, "", false, "", impl.ErrType}, {u2, text, "\x01\x02", true, "", impl.ErrType}, {u2, text, "\x01", false, "", impl.ErrInvalid}, {u2, impl.Type{}, "", false, "", impl.ErrInvalid},
		{text, u2, "\x00a", false, "", impl.ErrInvalid}, {text, u2, "aa\x00a", false, "", impl.ErrInvalid}, {text, u2, "a\x00", false, "", impl.ErrType}, {text, impl.Type{}, "\x00a", false, "", impl.ErrInvalid},
		{small, i1, "\x01\x01", false, "\x01\x01", impl.OK}, {small, i1, "\x01\xc8", false, "", impl.ErrConvert}, {small, i1, "\xc8\x02", false, "", impl.ErrInvalid}, {small, i1, "\xc8\x02", true, "", impl.ErrInvalid},
		{small, i1, "\xc8\x01", true, "\x7f\x01", impl.OK}, {small, text, "\x02", false, "", impl.ErrInvalid}, {small, text, "\x01", false, "", impl.ErrType}, {impl.Type{}, small, "", false, "", impl.ErrInvalid},
	} {
		got, code := impl.ConvertBytes(c.from, c.to, c.data, c.clamp)
		check(t, impl.TypeText(c.from)+" to "+impl.TypeText(c.to)+" of "+impl.HexText(c.data), []any{got, code}, []any{c.want, c.code})
	}
	_, code := impl.ConvertElement(small, text, "\x02", false)
	check(t, "no element", code, int64(impl.ErrInvalid))
	_, code = impl.ConvertElement(small, text, "\x01", false)
	check(t, "not convertible", code, int64(impl.ErrType))
	_, code = impl.ConvertElement(u2, i1, "", false)
	check(t, "no element", code, int64(impl.ErrInvalid))
}

// Data is converted element by element.
func TestP5ConvertedData(t *testing.T) {
	m := newTypeMaker(24)
	for range 2000 {
		from := m.draw(3, 24)
		to := m.drawRelated(from)
		var data, want [2]string
		wantCode := [2]int64{}
		for range m.IntN(6) {
			b, _ := m.drawElement(from)
			for i, clamp := range []bool{false, true} {
				converted, code := impl.ConvertElement(from, to, b, clamp)
				data[i] += b
				want[i] += converted
				wantCode[i] = max(wantCode[i], code)
			}
		}
		check(t, "code with clamp", wantCode[1], int64(impl.OK))
		for i, clamp := range []bool{false, true} {
			if wantCode[i] != impl.OK {
				want[i] = ""
			}
			got, code := impl.ConvertBytes(from, to, data[i], clamp)
			check(t, "data", []any{got, code}, []any{want[i], wantCode[i]})
		}
	}
	got, code := impl.ConvertBytes(mustType(t, "u1"), mustType(t, "u2b"), strings.Repeat("\x07", 70000), false)
	check(t, "long data", []any{len(got), strings.Count(got, "\x00\x07"), code}, []any{140000, 70000, int64(impl.OK)})
}

func TestP5SwappedByHand(t *testing.T) {
	for _, c := range [][4]string{
		{"u2", "\x01\x02", "u2b", "\x02\x01"}, {"i2b", "\xff\xfe", "i2", "\xfe\xff"}, {"i4", "\x01\x02\x03\x04", "i4b", "\x04\x03\x02\x01"}, {"u4b", "\x01\x02\x03\x04\x05\x06\x07\x08", "u4", "\x04\x03\x02\x01\x08\x07\x06\x05"},
		{"i8", "\x01\x02\x03\x04\x05\x06\x07\x80", "i8b", "\x80\x07\x06\x05\x04\x03\x02\x01"}, {"i1", "\x01\x02", "i1", "\x01\x02"}, {"u1", "\xff\x00", "u1", "\xff\x00"}, {"u2", "", "u2b", ""}, {"text(2)", "", "text(2)", ""},
		{"text(2)", "aba\x00", "text(2)", "aba\x00"}, {"ref", "\x01\x02", "ref", "\x01\x02"}, {"enum(i1,A=1,B=2)", "\x02\x01", "enum(i1,A=1,B=2)", "\x02\x01"},
		{"enum(u2,A=1,B=512)", "\x00\x02\x01\x00", "enum(u2b,A=1,B=512)", "\x02\x00\x00\x01"}, {"enum(i4b,A=-2)", "\xff\xff\xff\xfe", "enum(i4,A=-2)", "\xfe\xff\xff\xff"},
		{"array(2,u2)", "\x01\x02\x03\x04\x05\x06\x07\x08", "array(2,u2b)", "\x02\x01\x04\x03\x06\x05\x08\x07"}, {"array(2,array(2,u2b))", "\x01\x02\x03\x04\x05\x06\x07\x08", "array(2,array(2,u2))", "\x02\x01\x04\x03\x06\x05\x08\x07"},
		{"record(12,A@1:u2,B@4:ref,C@6:text(2),D@9:i2b)", "\x00\x01\x02\x00\x03\x04ab\x00\x05\x06\x00", "record(12,A@1:u2b,B@4:ref,C@6:text(2),D@9:i2)", "\x00\x02\x01\x00\x03\x04ab\x00\x06\x05\x00"},
		{"record(8,A@0:array(2,u2),B@4:record(4,C@1:enum(u2b,P=1)))", "\x01\x02\x03\x04\x00\x00\x01\x00", "record(8,A@0:array(2,u2b),B@4:record(4,C@1:enum(u2,P=1)))", "\x02\x01\x04\x03\x00\x01\x00\x00"},
		{"array(2,record(4,A@1:i2))", "\x00\x01\x02\x00\x00\x03\x04\x00", "array(2,record(4,A@1:i2b))", "\x00\x02\x01\x00\x00\x04\x03\x00"},
	} {
		swapped, data, ok := impl.SwapOrder(mustType(t, c[0]), c[1])
		check(t, "swapped "+c[0], []any{impl.TypeText(swapped), data, ok}, []any{c[2], c[3], true})
	}
}

func TestP5SwappedTwice(t *testing.T) {
	m := newTypeMaker(25)
	for range 4000 {
		x := roomy(m.draw(3, 24))
		before := widened(x)
		data, texts := m.drawElements(x)
		swapped, swappedData, ok := impl.SwapOrder(x, data)
		check(t, "type is swapped", []any{ok, impl.TypeText(swapped)}, []any{true, impl.TypeText(withBigNegated(x))})
		swappedTexts, ok := impl.TextsOf(swapped, swappedData)
		check(t, "texts", []any{slices.Equal(swappedTexts, texts), ok}, []any{true, true})
		back, backData, ok := impl.SwapOrder(swapped, swappedData)
		check(t, "swapped twice", []any{impl.SameType(back, x), backData, ok}, []any{true, data, true})
		check(t, "type after the calls", widened(x), before)
		checkApart(t, impl.TypeText(x), x, swapped, back)
	}
}

// withBigNegated returns a copy of a type with the other byte order.
func withBigNegated(x impl.Type) impl.Type {
	if x.Kind == impl.TyInt && x.Size > 1 {
		x.Big = !x.Big
	}
	x.Base = slices.Clone(x.Base)
	for i, base := range x.Base {
		x.Base[i] = withBigNegated(base)
	}
	x.Members = slices.Clone(x.Members)
	for i, m := range x.Members {
		x.Members[i].Type = withBigNegated(m.Type)
	}
	return x
}

func TestP5DataThatIsNotSwapped(t *testing.T) {
	for text, list := range map[string][]string{"u2": {"\x01", "\x01\x02\x03"}, "text(2)": {"\x00a", "ab\x00a", "a"}, "enum(u2,A=1)": {"\x00\x01", "\x01\x00\x00\x01", "\x01"},
		"record(4,A@1:u2)": {"\x01\x00\x00\x00", "\x00\x00\x00\x01", "\x00\x00\x00"}, "array(2,u2)": {"\x01\x02", "\x01\x02\x03", "\x01\x02\x03\x04\x05\x06"}} {
		for _, data := range list {
			swapped, got, ok := impl.SwapOrder(mustType(t, text), data)
			check(t, "swapped "+text, []any{swapped, got, ok}, []any{impl.Type{}, "", false})
		}
	}
}

func conversionResults(x, y impl.Type, s string, n int64) []any {
	low, high, isRange := impl.RangeOfType(x)
	clamped, isClamped := impl.ClampNumber(x, n)
	element, elementCode := impl.ConvertElement(x, y, s, n%2 == 0)
	data, dataCode := impl.ConvertBytes(x, y, s, n%2 != 0)
	swapped, swappedData, isSwapped := impl.SwapOrder(x, s)
	return []any{impl.Convertible(x, y), impl.AlwaysConverts(x, y), low, high, isRange, clamped, isClamped, element, elementCode, data, dataCode, swapped, swappedData, isSwapped}
}

func TestP1ConversionReturnsForAllArguments(t *testing.T) {
	list, texts, nums := oddTypes(), oddStrings(), oddNumbers()
	for _, c := range writtenElements {
		list = append(list, mustType(t, c[0]))
	}
	for i, x := range list {
		y, s, n := list[len(list)-1-i], texts[i%len(texts)], nums[i%len(nums)]
		check(t, "second call", conversionResults(roomy(x), roomy(y), s, n), conversionResults(x, y, s, n))
	}
	for _, a := range writtenElements {
		for i, b := range writtenElements {
			x, y := mustType(t, a[0]), mustType(t, b[0])
			check(t, "second call", conversionResults(roomy(x), roomy(y), a[1]+b[1], nums[i]), conversionResults(x, y, a[1]+b[1], nums[i]))
			check(t, "second call", conversionResults(roomy(x), roomy(y), texts[i], int64(i)), conversionResults(x, y, texts[i], int64(i)))
		}
	}
}

func TestP1ConversionLeavesTypesAsTheyAre(t *testing.T) {
	m := newTypeMaker(26)
	for range 1000 {
		x := roomy(m.draw(3, 24))
		y := roomy(m.drawRelated(x))
		data, _ := m.drawElements(x)
		before := []impl.Type{widened(x), widened(y)}
		first := []any{conversionResults(x, y, data, 0), conversionResults(x, y, data, 1)}
		check(t, "types after the calls", []impl.Type{widened(x), widened(y)}, before)
		check(t, "second call", []any{conversionResults(x, y, data, 0), conversionResults(x, y, data, 1)}, first)
	}
}
