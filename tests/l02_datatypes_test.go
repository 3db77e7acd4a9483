package tests

import (
	"fmt"
	"math"
	"runtime/debug"
	"strconv"
	"strings"
	"testing"

	"loop.example/g00904/impl"
)

const zeros7 = "\x00\x00\x00\x00\x00\x00\x00"

type typeForms struct {
	text   string
	binary string
	size   int64
	depth  int64
	t      impl.Type
}

// writtenForms are types with forms that were written by hand.
func writtenForms() []typeForms {
	i1, i4, i8, u2 := intType(1, true, false), intType(4, true, false), intType(8, true, false), intType(2, false, false)
	return []typeForms{
		{"u1", "\x01\x01\x00", 1, 1, intType(1, false, false)},
		{"i1", "\x01\x01\x01", 1, 1, i1},
		{"u2", "\x01\x02\x00", 2, 1, u2},
		{"u2b", "\x01\x02\x02", 2, 1, intType(2, false, true)},
		{"i2", "\x01\x02\x01", 2, 1, intType(2, true, false)},
		{"i2b", "\x01\x02\x03", 2, 1, intType(2, true, true)},
		{"u4", "\x01\x04\x00", 4, 1, intType(4, false, false)},
		{"u4b", "\x01\x04\x02", 4, 1, intType(4, false, true)},
		{"i4", "\x01\x04\x01", 4, 1, i4},
		{"i4b", "\x01\x04\x03", 4, 1, intType(4, true, true)},
		{"i8", "\x01\x08\x01", 8, 1, i8},
		{"i8b", "\x01\x08\x03", 8, 1, intType(8, true, true)},
		{"text(1)", "\x02\x01", 1, 1, textType(1)},
		{"text(16)", "\x02\x10", 16, 1, textType(16)},
		{"ref", "\x06", 2, 1, refType()},
		{"enum(i1,OFF=0,ON=1)", "\x03\x01\x01\x01\x02\x03OFF\x00" + zeros7 + "\x02ON\x01" + zeros7, 1, 1,
			enumType(i1, []string{"OFF", "ON"}, []int64{0, 1})},
		{"enum(i2b,Minus=-2,abcdefghijkl=513)",
			"\x03\x01\x02\x03\x02\x05Minus\xfe\xff\xff\xff\xff\xff\xff\xff\x0cabcdefghijkl\x01\x02\x00\x00\x00\x00\x00\x00", 2, 1,
			enumType(intType(2, true, true), []string{"Minus", "abcdefghijkl"}, []int64{-2, 513})},
		{"enum(i8,A=-9223372036854775808,B=9223372036854775807)",
			"\x03\x01\x08\x01\x02\x01A" + zeros7 + "\x80\x01B\xff\xff\xff\xff\xff\xff\xff\x7f", 8, 1,
			enumType(i8, []string{"A", "B"}, []int64{math.MinInt64, math.MaxInt64})},
		{"record(12,X@0:i4,Y@4:i8)", "\x04\x0c\x02\x01X\x00\x01\x04\x01\x01Y\x04\x01\x08\x01", 12, 2,
			compoundType(12, member("X", 0, i4), member("Y", 4, i8))},
		{"record(24,b_2@23:u1)", "\x04\x18\x01\x03b_2\x17\x01\x01\x00", 24, 2, compoundType(24, member("b_2", 23, intType(1, false, false)))},
		{"array(3,text(2))", "\x05\x03\x02\x02", 6, 2, arrayType(3, textType(2))},
		{"array(4,ref)", "\x05\x04\x06", 8, 2, arrayType(4, refType())},
		{"array(2,array(3,i4))", "\x05\x02\x05\x03\x01\x04\x01", 24, 3, arrayType(2, arrayType(3, i4))},
		{"record(9,A@1:array(2,u2),B@6:record(3,C@1:ref))",
			"\x04\x09\x02\x01A\x01\x05\x02\x01\x02\x00\x01B\x06\x04\x03\x01\x01C\x01\x06", 9, 3,
			compoundType(9, member("A", 1, arrayType(2, u2)), member("B", 6, compoundType(3, member("C", 1, refType()))))},
	}
}

func TestP3WrittenForms(t *testing.T) {
	for _, c := range writtenForms() {
		check(t, "valid "+c.text, impl.ValidType(c.t), true)
		check(t, "text of "+c.text, impl.TypeText(c.t), c.text)
		check(t, "binary form of "+c.text, impl.EncodeType(c.t), c.binary)
		check(t, "size of "+c.text, impl.TypeSize(c.t), c.size)
		check(t, "depth of "+c.text, impl.TypeDepth(c.t), c.depth)
		checkForms(t, c.t)
	}
}

// checkForms checks that a valid type is recovered from both of its forms.
func checkForms(t *testing.T, x impl.Type) {
	t.Helper()
	text, binary := impl.TypeText(x), impl.EncodeType(x)
	if text == "" || binary == "" {
		t.Fatalf("no forms of %+v", x)
	}
	parsed, ok := impl.ParseType(text)
	if !ok || !impl.SameType(parsed, x) {
		t.Errorf("%s: parsed %+v, %v", text, parsed, ok)
	}
	decoded, ok := impl.DecodeType(binary)
	if !ok || !impl.SameType(decoded, x) {
		t.Errorf("%s: decoded %+v, %v", text, decoded, ok)
	}
}

func TestP3DrawnTypes(t *testing.T) {
	m := newTypeMaker(2)
	seen := map[string]bool{}
	for range 5000 {
		x := m.draw(3, 24)
		if !impl.ValidType(x) {
			t.Fatalf("not valid: %+v", x)
		}
		checkForms(t, x)
		check(t, "size", impl.TypeSize(x), sizeOf(x))
		check(t, "depth", impl.TypeDepth(x), depthOf(x))
		seen[impl.TypeText(x)] = true
	}
	if len(seen) < 1000 {
		t.Errorf("only %d different types were drawn", len(seen))
	}
}

func checkValid(t *testing.T, what string, x impl.Type) {
	t.Helper()
	if !impl.ValidType(x) {
		t.Errorf("%s: not valid", what)
		return
	}
	checkForms(t, x)
	check(t, what, impl.TypeSize(x), sizeOf(x))
}

// checkInvalid checks all functions with an invalid type.
func checkInvalid(t *testing.T, what string, x impl.Type) {
	t.Helper()
	check(t, what, []any{impl.ValidType(x), impl.TypeSize(x), impl.TypeDepth(x), impl.EncodeType(x), impl.TypeText(x)},
		[]any{false, int64(0), int64(0), "", ""})
	check(t, what+" packed", impl.PackedType(x), impl.Type{})
}

func TestP3Ints(t *testing.T) {
	valid := map[string]bool{}
	for _, x := range allInts() {
		valid[fmt.Sprint(x)] = true
	}
	check(t, "kinds of ints", len(valid), 12)
	for _, size := range append(oddNumbers(), 3, 5, 6, 7, 10, 12) {
		for bits := range 4 {
			x := intType(size, bits&1 != 0, bits&2 != 0)
			if valid[fmt.Sprint(x)] {
				checkValid(t, fmt.Sprint(x), x)
			} else {
				checkInvalid(t, fmt.Sprint(x), x)
			}
		}
	}
}

func TestP3Constants(t *testing.T) {
	check(t, "kinds", []int64{impl.TyInt, impl.TyText, impl.TyEnum, impl.TyCompound, impl.TyArray, impl.TyRef}, []int64{1, 2, 3, 4, 5, 6})
	check(t, "limits", []int64{impl.MaxElement, impl.MaxTextSize, impl.MaxMembers, impl.MaxEnum, impl.MaxTypeDepth, impl.MaxTypeArray},
		[]int64{24, 16, 4, 6, 3, 4})
}

func TestP3KindsAndSizes(t *testing.T) {
	for _, kind := range []int64{math.MinInt64, -1, 0, 7, 8, 256, 257, math.MaxInt64} {
		checkInvalid(t, "kind", impl.Type{Kind: kind})
		checkInvalid(t, "kind", impl.Type{Kind: kind, Size: 2})
		checkInvalid(t, "kind", impl.Type{Kind: kind, Size: 4, Signed: true})
	}
	for _, size := range append(oddNumbers(), 15, 16, 17, 258) {
		if 1 <= size && size <= 16 {
			checkValid(t, "text", textType(size))
		} else {
			checkInvalid(t, "text", textType(size))
		}
		if size != 2 {
			checkInvalid(t, "ref", impl.Type{Kind: impl.TyRef, Size: size})
		}
	}
}

var sixNames = []string{"A", "B", "C", "D", "E", "F"}

func TestP3EnumsAtTheirLimits(t *testing.T) {
	i1 := intType(1, true, false)
	nums := []int64{-1, 0, 1, 2, 3, 4, 5}
	names := append(sixNames[:6:6], "G")
	for n := 1; n <= 6; n++ {
		checkValid(t, "enum", enumType(i1, names[:n], nums[:n]))
		checkInvalid(t, "a name too few", enumType(i1, names[:n-1], nums[:n]))
		checkInvalid(t, "a name too many", enumType(i1, names[:n+1], nums[:n]))
	}
	checkInvalid(t, "no number", enumType(i1, nil, nil))
	checkInvalid(t, "seven numbers", enumType(i1, names, nums))
	checkInvalid(t, "equal numbers", enumType(i1, names[:2], []int64{1, 1}))
	checkInvalid(t, "decreasing numbers", enumType(i1, names[:3], []int64{1, 3, 2}))
	checkValid(t, "names in another order", enumType(i1, []string{"Z", "A", "a"}, nums[:3]))
	checkInvalid(t, "equal names", enumType(i1, []string{"A", "B", "A"}, nums[:3]))
	for _, base := range allInts() {
		low, high := intLimits(base)
		checkValid(t, "limits of numbers", enumType(base, names[:2], []int64{low, high}))
		if base.Size < 8 {
			checkInvalid(t, "number below the limit", enumType(base, names[:2], []int64{low - 1, high}))
			checkInvalid(t, "number above the limit", enumType(base, names[:2], []int64{low, high + 1}))
			checkInvalid(t, "least number", enumType(base, names[:1], []int64{math.MinInt64}))
			checkInvalid(t, "greatest number", enumType(base, names[:1], []int64{math.MaxInt64}))
		}
	}
}

func TestP3BasesOfEnums(t *testing.T) {
	valid := enumType(intType(2, true, false), sixNames[:1], []int64{1})
	for _, base := range []impl.Type{{}, textType(2), refType(), valid, arrayType(1, valid.Base[0]), compoundType(2, member("A", 0, valid.Base[0])),
		intType(3, true, false), intType(8, false, false), {Kind: impl.TyInt, Size: 2, Signed: true, Count: 1}} {
		checkInvalid(t, "base of an enum", enumType(base, sixNames[:1], []int64{1}))
	}
	none, two := valid, valid
	none.Base = nil
	two.Base = []impl.Type{valid.Base[0], valid.Base[0]}
	checkInvalid(t, "no base", none)
	checkInvalid(t, "two bases", two)
}

func TestP3NamesWithinTypes(t *testing.T) {
	i1 := intType(1, true, false)
	for _, name := range []string{"a", "Z_9", "abcdefghijkl"} {
		checkValid(t, name, enumType(i1, []string{name}, []int64{1}))
		checkValid(t, name, compoundType(1, member(name, 0, i1)))
	}
	for _, name := range []string{"", "_a", "9", "abcdefghijklm", "a b", "a=", "a,", "é", "a\x00"} {
		checkInvalid(t, name, enumType(i1, []string{name}, []int64{1}))
		checkInvalid(t, name, compoundType(1, member(name, 0, i1)))
		checkInvalid(t, name, compoundType(2, member("first", 0, i1), member(name, 1, i1)))
	}
}

func TestP3CompoundsAtTheirLimits(t *testing.T) {
	i1, i8 := intType(1, true, false), intType(8, true, false)
	var members []impl.Member
	for i, name := range sixNames {
		members = append(members, member(name, int64(i), i1))
	}
	for n := 1; n <= 4; n++ {
		checkValid(t, "members", compoundType(int64(n), members[:n]...))
		checkValid(t, "members with a gap at the end", compoundType(24, members[:n]...))
		checkInvalid(t, "Size below the end", compoundType(int64(n)-1, members[:n]...))
	}
	checkInvalid(t, "five members", compoundType(24, members[:5]...))
	checkInvalid(t, "no member", compoundType(24))
	checkInvalid(t, "no member, no size", compoundType(0))
	for _, size := range []int64{math.MinInt64, -1, 0, 25, 32, 256, 257, math.MaxInt64} {
		checkInvalid(t, "Size of a compound", compoundType(size, members[0]))
	}
	checkInvalid(t, "equal names", compoundType(24, member("A", 0, i1), member("B", 1, i1), member("A", 2, i1)))
	checkValid(t, "names that differ by case", compoundType(24, member("A", 0, i1), member("a", 1, i1)))
	for _, offset := range oddNumbers() {
		x := compoundType(24, member("A", offset, i8))
		if 0 <= offset && offset <= 16 {
			checkValid(t, "offset", x)
		} else {
			checkInvalid(t, "offset", x)
		}
		x = compoundType(24, member("A", 2, i8), member("B", offset, i1))
		if 10 <= offset && offset <= 23 {
			checkValid(t, "second offset", x)
		} else {
			checkInvalid(t, "second offset", x)
		}
	}
	checkInvalid(t, "members in another order", compoundType(24, member("A", 8, i8), member("B", 0, i8)))
	checkInvalid(t, "invalid member", compoundType(24, member("A", 0, i8), member("B", 8, impl.Type{})))
}

func TestP3ArraysAtTheirLimits(t *testing.T) {
	i1, i8 := intType(1, true, false), intType(8, true, false)
	for _, count := range oddNumbers() {
		if 1 <= count && count <= 4 {
			checkValid(t, "count", arrayType(count, i1))
		} else {
			checkInvalid(t, "count", arrayType(count, i1))
		}
	}
	checkValid(t, "24 bytes", arrayType(3, i8))
	checkInvalid(t, "32 bytes", arrayType(4, i8))
	checkValid(t, "24 bytes", arrayType(4, compoundType(6, member("A", 0, i1))))
	checkInvalid(t, "28 bytes", arrayType(4, compoundType(7, member("A", 0, i1))))
	checkInvalid(t, "array of nothing", arrayType(2, impl.Type{}))
	checkInvalid(t, "no base", impl.Type{Kind: impl.TyArray, Count: 2})
	checkInvalid(t, "two bases", impl.Type{Kind: impl.TyArray, Count: 2, Base: []impl.Type{i1, i1}})
}

func TestP3DepthAtItsLimit(t *testing.T) {
	leaves := []impl.Type{intType(1, true, false), textType(2), refType(), enumType(intType(1, true, false), sixNames[:2], []int64{1, 2})}
	wraps := []func(x impl.Type) impl.Type{
		func(x impl.Type) impl.Type { return arrayType(1, x) },
		func(x impl.Type) impl.Type { return compoundType(4, member("A", 0, x)) },
		func(x impl.Type) impl.Type { return compoundType(4, member("A", 0, leaves[0]), member("B", 1, x)) },
	}
	for _, leaf := range leaves {
		check(t, "depth", impl.TypeDepth(leaf), int64(1))
		for _, outer := range wraps[:2] {
			for _, inner := range wraps {
				if x := inner(leaf); sizeOf(x) <= 4 {
					check(t, "depth", impl.TypeDepth(x), int64(2))
					check(t, "depth", impl.TypeDepth(outer(x)), int64(3))
					checkInvalid(t, "depth 4", outer(outer(x)))
					checkInvalid(t, "depth 4", compoundType(24, member("A", 0, leaf), member("B", 8, outer(outer(x)))))
				}
			}
		}
	}
}

// unusedFields sets, one after the other, the fields that a kind does not use.
func unusedFields() map[string]func(x *impl.Type) {
	return map[string]func(x *impl.Type){
		"Size":    func(x *impl.Type) { x.Size = 1 },
		"Signed":  func(x *impl.Type) { x.Signed = true },
		"Big":     func(x *impl.Type) { x.Big = true },
		"Names":   func(x *impl.Type) { x.Names = []string{"A"} },
		"Nums":    func(x *impl.Type) { x.Nums = []int64{0} },
		"Members": func(x *impl.Type) { x.Members = []impl.Member{{}} },
		"Base":    func(x *impl.Type) { x.Base = []impl.Type{{}} },
		"Count":   func(x *impl.Type) { x.Count = 1 },
	}
}

func TestP3UnusedFields(t *testing.T) {
	used := map[string]string{"i4": "Size Signed Big", "text(3)": "Size", "enum(i1,A=0)": "Names Nums Base",
		"record(3,A@0:i1)": "Size Members", "array(2,i1)": "Count Base", "ref": "Size"}
	for text, fields := range used {
		for field, set := range unusedFields() {
			if strings.Contains(fields, field) {
				continue
			}
			x, _ := impl.ParseType(text)
			set(&x)
			checkInvalid(t, text+" with "+field, x)
			checkInvalid(t, "array of "+text+" with "+field, arrayType(1, x))
			checkInvalid(t, "compound of "+text+" with "+field, compoundType(24, member("A", 0, x)))
		}
	}
}

func TestP3EmptySlicesAreNoSlices(t *testing.T) {
	x := intType(4, true, false)
	y := x
	y.Names, y.Nums, y.Members, y.Base = []string{}, []int64{}, []impl.Member{}, []impl.Type{}
	check(t, "forms", []any{impl.TypeText(y), impl.EncodeType(y), impl.SameType(x, y), impl.SameType(y, x)}, []any{"i4", "\x01\x04\x01", true, true})
}

func TestP3TextsThatAreNoForms(t *testing.T) {
	for _, s := range []string{"", " ", "i", "u", "b", "ib", "4", "-4", "i4 ", " i4", "i4\n", "I4", "i4B", "i4bb", "bi4", "i04", "i+4", "i-4", "i4.0",
		"i0", "i3", "i16", "u8", "u8b", "i1b", "u1b", "iu4", "ui4", "i2,", "i2)", "i4i4", "int", "\x00", "i4\x00",
		"ref ", " ref", "Ref", "refs", "ref()", "reff", "ref2", "re",
		"text", "text()", "text(", "text(3", "text3", "text(3))", "text((3)", "text(0)", "text(17)", "text(03)", "text(+3)", "text(-3)", "text(-0)",
		"text( 3)", "text(3 )", "text(3,)", "text(3)x", "text(0x3)", "text(1_0)", "text(99999999999999999999)", "Text(3)", "text(٣)",
		"enum", "enum()", "enum(i1)", "enum(i1,)", "enum(i1,A)", "enum(i1,A=)", "enum(i1,A=1", "enum(i1,A=1))", "enum(i1,A=1,)", "enum(i1,=1)",
		"enum(i1;A=1)", "enum(i1,A:1)", "enum(i1,A=1B=2)", "enum(i1,A=01)", "enum(i1,A=+1)", "enum(i1,A=-0)", "enum(i1,A=-01)", "enum(i1,A= 1)",
		"enum(i1,A=1,A=2)", "enum(i1,A=2,B=1)", "enum(i1,A=1,B=1)", "enum(i1,A=128)", "enum(i1,A=-129)", "enum(u1,A=-1)", "enum(u1,A=256)",
		"enum(u8,A=1)", "enum(i8,A=9223372036854775808)", "enum(i8,A=-9223372036854775809)", "enum(ref,A=1)", "enum(text(1),A=1)",
		"enum(enum(i1,A=1),B=1)", "enum(i1,abcdefghijklm=1)", "enum(i1,_=1)", "enum(i1,A=1,B=2,C=3,D=4,E=5,F=6,G=7)",
		"record", "record()", "record(3)", "record(3,)", "record(3,A)", "record(3,A@0)", "record(3,A@0:)", "record(3,A@0:i1", "record(3,A@0:i1))",
		"record(3,A@0:i1,)", "record(3,@0:i1)", "record(3,A:0@i1)", "record(,A@0:i1)", "record(03,A@0:i1)", "record(3,A@00:i1)", "record(3,A@+0:i1)",
		"record(3,A@-0:i1)", "record(3,A@-1:i1)", "record(3,A@3:i1)", "record(3,X@0:i4)", "record(0,A@0:i1)", "record(25,A@0:i1)", "record(-1,A@0:i1)",
		"record(3,A@0:i1,A@1:i1)", "record(3,A@1:i1,B@0:i1)", "record(3,A@0:i2,B@1:i1)", "record(3,A@9223372036854775807:i1)",
		"record(9,A@0:i1,B@1:i1,C@2:i1,D@3:i1,E@4:i1)", "record(3,abcdefghijklm@0:i1)", "record(3,A@0:record(3,B@0:record(3,C@0:record(3,D@0:i1))))",
		"array", "array()", "array(3)", "array(3,)", "array(,i1)", "array(3,i1", "array(3,i1))", "array(3,i1,i1)", "array(0,i1)", "array(5,i1)",
		"array(03,i1)", "array(+3,i1)", "array(-3,i1)", "array(-0,i1)", "array(4,i8)", "array(4,array(4,i2))", "array(1,array(1,array(1,i1)))"} {
		x, ok := impl.ParseType(s)
		check(t, "ParseType("+s+")", ok, false)
		check(t, "ParseType("+s+")", x, impl.Type{})
	}
}

func TestP3BytesThatAreNoForms(t *testing.T) {
	on := "\x03\x01\x01\x01\x01\x02ON\x01" + zeros7
	for _, s := range []string{"", "\x00", "\x01", "\x01\x04", "\x01\x04\x01\x00", "\x01\x03\x00", "\x01\x00\x00", "\x01\x08\x00", "\x01\x08\x02", "\x01\x01\x02",
		"\x01\x01\x03", "\x01\x02\x04", "\x01\x02\x80", "\x01\x02\xff", "\x01\x10\x00", "\x01\xff\x00",
		"\x02", "\x02\x00", "\x02\x11", "\x02\xff", "\x02\x01\x00", "\x06\x00", "\x06\x02", "\x07", "\x07\x02", "\xff",
		"\x03", "\x03\x01\x01\x01", "\x03\x01\x01\x01\x00", on[:len(on)-1], on + "\x00", "\x03\x02\x01\x01\x02ON\x01" + zeros7, "\x03" + on,
		"\x03\x01\x01\x01\x01\x02ON\x80" + zeros7, "\x03\x01\x01\x01\x01\x02ON\x01\x01" + zeros7[1:], "\x03\x01\x01\x01\x01\x00\x01" + zeros7,
		"\x03\x01\x01\x01\x02\x01A\x01" + zeros7 + "\x01A\x02" + zeros7, "\x03\x01\x01\x01\x02\x01A\x02" + zeros7 + "\x01B\x01" + zeros7,
		"\x03\x01\x01\x01\x02\x01A\x01" + zeros7, "\x03\x01\x01\x01\xff\x01A\x01" + zeros7, "\x03\x01\x01\x01\x01\xffA\x01" + zeros7,
		"\x04", "\x04\x01", "\x04\x01\x00", "\x04\x01\x01", "\x04\x01\x01\x01A", "\x04\x01\x01\x01A\x00", "\x04\x01\x01\x01A\x00\x01\x01", "\x04\x01\x01\x00\x00\x01\x01\x01",
		"\x04\x01\x01\x01A\x01\x01\x01\x01", "\x04\x00\x01\x01A\x00\x01\x01\x01", "\x04\x19\x01\x01A\x00\x01\x01\x01", "\x04\x01\x01\x01A\x00\x01\x01\x01\x00",
		"\x04\x02\x02\x01A\x00\x01\x01\x01\x01A\x01\x01\x01\x01", "\x04\x02\x02\x01A\x01\x01\x01\x01\x01B\x00\x01\x01\x01", "\x04\x02\x01\x01A\xff\x01\x01\x01",
		"\x05", "\x05\x01", "\x05\x00\x06", "\x05\x05\x06", "\x05\xff\x06", "\x05\x04\x01\x08\x01", "\x05\x01\x06\x00", "\x05\x01\x05\x01\x05\x01\x06"} {
		x, ok := impl.DecodeType(s)
		check(t, "DecodeType of "+impl.HexText(s), ok, false)
		check(t, "DecodeType of "+impl.HexText(s), x, impl.Type{})
	}
}

// Of all short strings, exactly the binary forms are decoded.
func TestP3AllShortBinaryForms(t *testing.T) {
	found := map[int]int{}
	look := func(b ...byte) {
		s := string(b)
		x, ok := impl.DecodeType(s)
		if ok && impl.EncodeType(x) == s {
			found[len(s)]++
		} else if ok {
			t.Errorf("DecodeType of %q: got %+v", s, x)
		}
	}
	for a := range 256 {
		look(byte(a))
		for b := range 256 {
			look(byte(a), byte(b))
			for c := 0; c < 256 && a < 8; c++ {
				look(byte(a), byte(b), byte(c))
			}
		}
	}
	// One reference; 16 texts; 12 integers and 4 arrays of references.
	check(t, "forms by length", found, map[int]int{1: 1, 2: 16, 3: 16})
}

// edits calls try with every string that differs from s in one place.
func edits(s, alphabet string, try func(edited string)) {
	for at := range len(s) + 1 {
		try(s[:at])
		for _, c := range []byte(alphabet) {
			try(s[:at] + string([]byte{c}) + s[at:])
			if at < len(s) {
				try(s[:at] + string([]byte{c}) + s[at+1:])
			}
		}
		if at < len(s) {
			try(s[:at] + s[at+1:])
			try(s[:at] + s[at:at+1] + s[at:])
		}
	}
}

func TestP3EditedForms(t *testing.T) {
	list := []impl.Type{}
	for _, c := range writtenForms() {
		list = append(list, c.t)
	}
	m := newTypeMaker(3)
	for range 60 {
		list = append(list, m.draw(3, 24))
	}
	for _, x := range list {
		edits(impl.TypeText(x), "(),=@:-+ 0129iubAz_\x00", func(s string) {
			if x, ok := impl.ParseType(s); ok && impl.TypeText(x) != s || !ok && !impl.SameType(x, impl.Type{}) {
				t.Errorf("ParseType(%q): got %+v, %v", s, x, ok)
			}
		})
		edits(impl.EncodeType(x), "\x00\x01\x02\x03\x04\x05\x06\x08\x18\x19A\xff", func(s string) {
			if x, ok := impl.DecodeType(s); ok && impl.EncodeType(x) != s || !ok && !impl.SameType(x, impl.Type{}) {
				t.Errorf("DecodeType(%q): got %+v, %v", s, x, ok)
			}
		})
	}
}

func TestP3PackedForms(t *testing.T) {
	for text, want := range map[string]string{
		"i4b":                             "i4b",
		"text(16)":                        "text(16)",
		"ref":                             "ref",
		"enum(i2,A=-1,B=1)":               "enum(i2,A=-1,B=1)",
		"record(8,A@0:i1,B@4:i4)":         "record(5,A@0:i1,B@1:i4)",
		"record(5,A@0:i1,B@1:i4)":         "record(5,A@0:i1,B@1:i4)",
		"record(24,A@20:i1)":              "record(1,A@0:i1)",
		"record(2,A@0:i1)":                "record(1,A@0:i1)",
		"array(3,text(2))":                "array(3,text(2))",
		"array(2,record(12,A@1:text(3)))": "array(2,record(3,A@0:text(3)))",
		"array(2,array(2,i2))":            "array(2,array(2,i2))",
		"record(9,A@1:array(2,u2),B@6:record(3,C@1:ref))":                                "record(6,A@0:array(2,u2),B@4:record(2,C@0:ref))",
		"record(24,A@1:array(2,text(5)),D@20:enum(i2b,E=-1))":                            "record(12,A@0:array(2,text(5)),D@10:enum(i2b,E=-1))",
		"record(24,A@1:record(10,B@1:i1,C@4:i1),D@12:record(10,E@9:i1),F@22:u1,G@23:i1)": "record(5,A@0:record(2,B@0:i1,C@1:i1),D@2:record(1,E@0:i1),F@3:u1,G@4:i1)",
		"array(2,array(2,record(6,A@1:u1)))":                                             "",
		"record(1,A@1:i1)":                                                               "",
	} {
		x, ok := impl.ParseType(text)
		check(t, "ParseType("+text+")", ok, want != "")
		check(t, "packed "+text, impl.TypeText(impl.PackedType(x)), want)
	}
}

func checkNoGaps(t *testing.T, x impl.Type) {
	t.Helper()
	end := int64(0)
	for _, m := range x.Members {
		check(t, "offset in "+impl.TypeText(x), m.Offset, end)
		end += sizeOf(m.Type)
		checkNoGaps(t, m.Type)
	}
	if x.Kind == impl.TyCompound {
		check(t, "size of "+impl.TypeText(x), x.Size, end)
	}
	for _, b := range x.Base {
		checkNoGaps(t, b)
	}
}

// bare returns a type without the numbers that packing changes.
func bare(x impl.Type) impl.Type {
	if x.Kind == impl.TyCompound {
		x.Size = 0
	}
	members, base := x.Members, x.Base
	x.Members, x.Base = nil, nil
	for _, m := range members {
		x.Members = append(x.Members, member(m.Name, 0, bare(m.Type)))
	}
	for _, b := range base {
		x.Base = append(x.Base, bare(b))
	}
	return x
}

func TestP3PackedTypesHaveNoGaps(t *testing.T) {
	m := newTypeMaker(4)
	for range 3000 {
		x := m.draw(3, 24)
		packed := impl.PackedType(x)
		checkValid(t, "packed "+impl.TypeText(x), packed)
		checkNoGaps(t, packed)
		check(t, "packed "+impl.TypeText(x), bare(packed), bare(x))
		check(t, "packed twice", impl.PackedType(packed), packed)
		if sizeOf(packed) > sizeOf(x) {
			t.Errorf("%s became greater", impl.TypeText(x))
		}
	}
}

func TestP3DifferentTypes(t *testing.T) {
	base := impl.Type{Kind: 9, Size: -1, Signed: true, Big: true, Names: []string{"a", "b"}, Nums: []int64{2, 1}, Count: 7,
		Members: []impl.Member{member("x", 3, textType(1)), member("y", 4, arrayType(9, refType()))}, Base: []impl.Type{textType(1), enumType(refType(), nil, nil)}}
	check(t, "same", impl.SameType(base, roomy(base)), true)
	for i, change := range []func(x *impl.Type){
		func(x *impl.Type) { x.Kind++ }, func(x *impl.Type) { x.Size-- }, func(x *impl.Type) { x.Signed = false }, func(x *impl.Type) { x.Big = false },
		func(x *impl.Type) { x.Names[1] = "c" }, func(x *impl.Type) { x.Names = x.Names[:1] }, func(x *impl.Type) { x.Names = nil },
		func(x *impl.Type) { x.Nums[0] = 1 }, func(x *impl.Type) { x.Nums = append(x.Nums, 0) }, func(x *impl.Type) { x.Count = 0 },
		func(x *impl.Type) { x.Members[1].Name = "z" }, func(x *impl.Type) { x.Members[0].Offset = 0 }, func(x *impl.Type) { x.Members = x.Members[:1] },
		func(x *impl.Type) { x.Members[0].Type.Size = 2 }, func(x *impl.Type) { x.Members[1].Type.Base[0].Size = 3 }, func(x *impl.Type) { x.Members[1].Type.Base = nil },
		func(x *impl.Type) { x.Base[0].Kind = 0 }, func(x *impl.Type) { x.Base[1].Base[0].Count = 1 }, func(x *impl.Type) { x.Base = x.Base[:1] }, func(x *impl.Type) { x.Base = nil },
	} {
		x := roomy(base)
		change(&x)
		check(t, "change "+strconv.Itoa(i), []any{impl.SameType(base, x), impl.SameType(x, base), impl.SameType(x, x)}, []any{false, false, true})
	}
}

// selfContaining returns an array type that is its own base after some steps.
func selfContaining(steps int, count int64) impl.Type {
	bases := make([][]impl.Type, steps)
	for i := range bases {
		bases[i] = make([]impl.Type, 1)
	}
	for i := range bases {
		bases[i][0] = impl.Type{Kind: impl.TyArray, Count: count, Base: bases[(i+1)%steps]}
	}
	return bases[0][0]
}

func selfContainingCompound() impl.Type {
	x := compoundType(1, member("A", 0, impl.Type{}))
	x.Members[0].Type = x
	return x
}

func selfContainingEnum() impl.Type {
	x := enumType(impl.Type{}, []string{"A"}, []int64{1})
	x.Base[0] = x
	return x
}

// withSmallStack calls f with a stack that recursion without a limit exceeds.
func withSmallStack(f func()) {
	defer debug.SetMaxStack(debug.SetMaxStack(4 << 20))
	f()
}

func TestP1TypesThatContainThemselves(t *testing.T) {
	withSmallStack(func() { checkSelfContaining(t) })
}

func checkSelfContaining(t *testing.T) {
	one, two, three := selfContaining(1, 1), selfContaining(2, 1), selfContaining(3, 1)
	for _, x := range []impl.Type{one, two, three, selfContaining(3, 4), selfContainingCompound(), selfContainingEnum()} {
		checkInvalid(t, "type that contains itself", x)
		check(t, "same as itself", impl.SameType(x, x), true)
		check(t, "same as another one", impl.SameType(x, impl.Type{}), false)
	}
	check(t, "same without end", []bool{impl.SameType(one, two), impl.SameType(two, three), impl.SameType(three, selfContaining(3, 2))}, []bool{true, true, false})
	check(t, "different in the end", impl.SameType(one, arrayType(1, arrayType(1, refType()))), false)
}

func TestP1DeepAndWideTypes(t *testing.T) {
	withSmallStack(func() { checkDeepAndWide(t) })
}

func checkDeepAndWide(t *testing.T) {
	deep, other := refType(), textType(2)
	wide, wider := refType(), textType(2)
	for range 100000 {
		deep, other = arrayType(1, deep), arrayType(1, other)
	}
	for range 60 {
		wide = compoundType(1, member("A", 0, wide), member("B", 0, wide), member("C", 0, wide))
		wide = impl.Type{Members: wide.Members, Base: []impl.Type{wide, wide}}
		wider = impl.Type{Members: []impl.Member{member("A", 0, wider), member("B", 0, wider)}, Base: []impl.Type{wider}}
	}
	many := enumType(intType(8, true, false), make([]string, 100000), make([]int64, 100000))
	for _, x := range []impl.Type{deep, other, wide, wider, many, {Kind: impl.TyCompound, Size: 1, Members: make([]impl.Member, 100000)}} {
		checkInvalid(t, "too much", x)
		check(t, "same", impl.SameType(x, x), true)
	}
	check(t, "same", []bool{impl.SameType(deep, other), impl.SameType(wide, wider)}, []bool{false, false})
}

func TestP1LongForms(t *testing.T) {
	withSmallStack(func() { checkLongForms(t) })
}

func checkLongForms(t *testing.T) {
	const many = 300000
	for _, s := range []string{
		strings.Repeat("array(1,", many), strings.Repeat("record(1,A@0:", many), strings.Repeat("enum(", many), strings.Repeat("(", many),
		"i" + strings.Repeat("9", many), "i4" + strings.Repeat("b", many), "text(" + strings.Repeat("0", many) + "1)", strings.Repeat("x", many),
		"enum(i1" + strings.Repeat(",A=0", many) + ")", "record(1" + strings.Repeat(",A@0:i1", many) + ")", "enum(i1," + strings.Repeat("A", many) + "=1)",
		strings.Repeat("\x05\x01", many), strings.Repeat("\x04\x01\xff\x01A\x00", many), strings.Repeat("\x03", many), strings.Repeat("\xff", many),
		"\x04\x18\xff" + strings.Repeat("\x01A\x00\x04\x18\xff", many), "\x03\x01\x01\x01\xff" + strings.Repeat("\x01A\x00\x00\x00\x00\x00\x00\x00\x00", many)} {
		x, ok := impl.ParseType(s)
		check(t, "ParseType of a long string", []any{x, ok}, []any{impl.Type{}, false})
		x, ok = impl.DecodeType(s)
		check(t, "DecodeType of a long string", []any{x, ok}, []any{impl.Type{}, false})
	}
}

func typeResults(x, y impl.Type, s string) []any {
	decoded, isDecoded := impl.DecodeType(s)
	parsed, isParsed := impl.ParseType(s)
	return []any{impl.ValidType(x), impl.SameType(x, y), impl.TypeSize(x), impl.TypeDepth(x), impl.PackedType(x),
		impl.EncodeType(x), decoded, isDecoded, impl.TypeText(x), parsed, isParsed}
}

// oddTypes are types with numbers at their limits, in all fields and all kinds.
func oddTypes() []impl.Type {
	var list []impl.Type
	for _, n := range oddNumbers() {
		for kind := int64(-1); kind <= 7; kind++ {
			x := impl.Type{Kind: kind, Size: n}
			list = append(list, x, impl.Type{Kind: kind, Count: n, Base: []impl.Type{x}}, compoundType(n, member("A", n, x)),
				enumType(x, []string{"A"}, []int64{n}), compoundType(24, member("A", n, refType()), member("B", n, refType())))
		}
		list = append(list, impl.Type{Kind: n}, impl.Type{Kind: n, Size: 4, Signed: true})
	}
	return list
}

func TestP1TypesReturnForAllArguments(t *testing.T) {
	list := oddTypes()
	texts := oddStrings()
	for i, x := range list {
		y, s := list[len(list)-1-i], texts[i%len(texts)]
		check(t, "second call", typeResults(roomy(x), roomy(y), s), typeResults(x, y, s))
	}
}

func TestP1TypesAreNotModified(t *testing.T) {
	m := newTypeMaker(5)
	list := append(oddTypes()[:200], refType())
	for range 500 {
		list = append(list, m.draw(3, 24))
	}
	for _, x := range list {
		x = roomy(x)
		before := widened(x)
		first := typeResults(x, x, impl.TypeText(x))
		check(t, "argument after the calls", widened(x), before)
		check(t, "second call", typeResults(x, x, impl.TypeText(x)), first)
		packed := impl.PackedType(x)
		decoded, _ := impl.DecodeType(impl.EncodeType(x))
		parsed, _ := impl.ParseType(impl.TypeText(x))
		checkApart(t, impl.TypeText(x), x, packed, decoded, parsed)
	}
}
