package tests

import (
	"math"
	"slices"
	"strconv"
	"strings"
	"testing"

	"loop.example/g00904/impl"
)

// writtenElements are elements and texts that were written by hand: type, bytes, text.
var writtenElements = [][3]string{
	{"u1", "\x00", "0"}, {"u1", "\xff", "255"}, {"i1", "\x80", "-128"}, {"i1", "\xff", "-1"}, {"i1", "\x7f", "127"},
	{"u2", "\x01\x02", "513"}, {"u2b", "\x01\x02", "258"}, {"i2", "\xfe\xff", "-2"}, {"i2b", "\xff\xfe", "-2"}, {"i2", "\xff\xfe", "-257"},
	{"i2", "\x00\x80", "-32768"}, {"i2b", "\x80\x00", "-32768"}, {"i2b", "\x00\x80", "128"}, {"u2b", "\xff\xff", "65535"},
	{"u4", "\x00\x00\x00\x80", "2147483648"}, {"i4", "\x00\x00\x00\x80", "-2147483648"}, {"i4b", "\x7f\xff\xff\xff", "2147483647"}, {"u4b", "\xff\xff\xff\xff", "4294967295"},
	{"u4b", "\x01\x02\x03\x04", "16909060"}, {"i4", "\x04\x03\x02\x01", "16909060"},
	{"i8", "\x00\x00\x00\x00\x00\x00\x00\x80", "-9223372036854775808"}, {"i8b", "\x80\x00\x00\x00\x00\x00\x00\x00", "-9223372036854775808"},
	{"i8", "\xff\xff\xff\xff\xff\xff\xff\x7f", "9223372036854775807"}, {"i8b", "\x7f\xff\xff\xff\xff\xff\xff\xff", "9223372036854775807"},
	{"i8b", "\x01\x02\x03\x04\x05\x06\x07\x08", "72623859790382856"}, {"i8", "\xff\xff\xff\xff\xff\xff\xff\xff", "-1"},
	{"text(1)", "\x00", `""`}, {"text(1)", "a", `"a"`}, {"text(3)", "\x00\x00\x00", `""`}, {"text(3)", "ab\x00", `"ab"`}, {"text(3)", "abc", `"abc"`},
	{"text(2)", "\"\\", `"\22\5c"`}, {"text(4)", "\x01\x1f\x20\x7e", `"\01\1f ~"`}, {"text(4)", "\x7f\x80\xff\x0a", `"\7f\80\ff\0a"`}, {"text(2)", "\xc3\xa9", `"\c3\a9"`},
	{"text(5)", ",}]#=", `",}]#="`}, {"text(16)", "0123456789abcdef", `"0123456789abcdef"`}, {"text(2)", "'`", "\"'`\""}, {"text(3)", "\\41", `"\5c41"`},
	{"enum(i1,OFF=0,ON=1)", "\x01", "ON"}, {"enum(i1,OFF=0,ON=1)", "\x00", "OFF"}, {"enum(i2b,Minus=-2,M_2=513)", "\xff\xfe", "Minus"}, {"enum(i2b,Minus=-2,M_2=513)", "\x02\x01", "M_2"},
	{"enum(u2,A=513)", "\x01\x02", "A"}, {"enum(i8,A=-9223372036854775808,B=9223372036854775807)", "\x00\x00\x00\x00\x00\x00\x00\x80", "A"},
	{"ref", "\x07\x00", "#7"}, {"ref", "\x00\x00", "#0"}, {"ref", "\xff\xff", "#65535"}, {"ref", "\x00\x01", "#256"},
	{"record(3,X@0:i1,Y@1:text(2))", "\x05A\x00", `{X=5,Y="A"}`}, {"record(6,X@1:i1,Y@3:u2b)", "\x00\xff\x00\x01\x02\x00", "{X=-1,Y=258}"},
	{"record(24,b_2@23:u1)", strings.Repeat("\x00", 23) + "\x09", "{b_2=9}"}, {"record(2,A@0:enum(u1,A=7,B=8),B@1:u1)", "\x08\x07", "{A=B,B=7}"},
	{"array(2,i1)", "\x01\xff", "[1,-1]"}, {"array(1,ref)", "\x01\x00", "[#1]"}, {"array(3,text(2))", "a\x00\x00\x00bc", `["a","","bc"]`}, {"array(2,array(2,u1))", "\x01\x02\x03\x04", "[[1,2],[3,4]]"},
	{"array(2,record(3,A@1:u1))", "\x00\x01\x00\x00\x02\x00", "[{A=1},{A=2}]"},
	{"record(9,A@1:array(2,u2),B@6:record(3,C@1:ref))", "\x00\x01\x00\x02\x00\x00\x00\x03\x00", "{A=[1,2],B={C=#3}}"},
}

func checkElement(t *testing.T, x impl.Type, b, text string) {
	t.Helper()
	what := impl.TypeText(x) + " " + text
	check(t, what+" is an element", impl.ValidElement(x, b), true)
	check(t, what+" written", impl.ElementText(x, b), text)
	read, ok := impl.ReadElement(x, text)
	check(t, what+" read", []any{read, ok}, []any{b, true})
}

func TestP4WrittenElements(t *testing.T) {
	for _, c := range writtenElements {
		checkElement(t, mustType(t, c[0]), c[1], c[2])
	}
}

func TestP4DrawnElements(t *testing.T) {
	m := newTypeMaker(11)
	for range 4000 {
		x := m.draw(3, 24)
		for range 3 {
			b, text := m.drawElement(x)
			checkElement(t, x, b, text)
		}
		checkElement(t, x, zeroElementOf(x), impl.ElementText(x, zeroElementOf(x)))
	}
}

// checkNumber checks that a type has an element with a number, or that it has none.
func checkNumber(t *testing.T, x impl.Type, n int64) {
	t.Helper()
	what := impl.TypeText(x) + " with " + strconv.FormatInt(n, 10)
	b, ok := impl.BytesOf(x, n)
	if !hasNumber(x, n) {
		check(t, what, []any{b, ok}, []any{"", false})
		return
	}
	form, _ := numberForm(x)
	check(t, what, []any{b, ok}, []any{bytesOfNumber(form, n), true})
	back, ok := impl.NumberOf(x, b)
	check(t, what+" restored", []any{back, ok}, []any{n, true})
}

func TestP4NumbersAtTheirLimits(t *testing.T) {
	for _, x := range append(allInts(), refType()) {
		form, _ := numberForm(x)
		low, high := intLimits(form)
		for _, n := range append(oddNumbers(), low-1, low, low+1, high-1, high, high+1, 513, -513) {
			checkNumber(t, x, n)
		}
	}
}

func TestP4NumbersOfEnums(t *testing.T) {
	for _, base := range allInts() {
		low, high := intLimits(base)
		x := enumType(base, []string{"Low", "Two", "High"}, []int64{low, 2, high})
		for _, n := range append(oddNumbers(), low-1, low, low+1, high-1, high, high+1, 3) {
			checkNumber(t, x, n)
			if low <= n && n <= high {
				number, ok := impl.NumberOf(x, bytesOfNumber(base, n))
				check(t, "number of an enum", []any{number, ok}, []any{map[bool]int64{true: n}[hasNumber(x, n)], hasNumber(x, n)})
			}
		}
	}
}

func TestP4EveryElementOfTwoBytes(t *testing.T) {
	for _, text := range []string{"u1", "i1", "u2", "u2b", "i2", "i2b", "ref"} {
		x := mustType(t, text)
		form, _ := numberForm(x)
		low, high := intLimits(form)
		for n := low; n <= high; n++ {
			b := bytesOfNumber(form, n)
			number, isNumber := impl.NumberOf(x, b)
			back, isElement := impl.BytesOf(x, n)
			if number != n || back != b || !isNumber || !isElement {
				t.Fatalf("%s with %d: got %d and %q", text, n, number, back)
			}
		}
	}
}

func TestP4OtherKindsHaveNoNumbers(t *testing.T) {
	for _, text := range []string{"text(1)", "text(2)", "text(8)", "record(1,A@0:u1)", "record(2,A@0:ref)", "array(1,u1)", "array(2,u1)", "array(1,ref)"} {
		x := mustType(t, text)
		for _, n := range []int64{math.MinInt64, -1, 0, 1, 65, math.MaxInt64} {
			b, ok := impl.BytesOf(x, n)
			check(t, "BytesOf for "+text, []any{b, ok}, []any{"", false})
		}
		n, ok := impl.NumberOf(x, zeroElementOf(x))
		check(t, "NumberOf for "+text, []any{n, ok}, []any{int64(0), false})
	}
}

func TestP4ZeroElements(t *testing.T) {
	for text, want := range map[string]string{
		"i1": "\x00", "i4b": "\x00\x00\x00\x00", "i8": strings.Repeat("\x00", 8), "text(16)": strings.Repeat("\x00", 16), "ref": "\x00\x00",
		"enum(i1,A=1,B=2)": "\x01", "enum(i1,A=-1,B=0)": "\xff", "enum(u2b,A=513,B=514)": "\x02\x01", "enum(u2,A=513,B=514)": "\x01\x02",
		"record(6,A@1:enum(u1,A=7),B@3:i2)": "\x00\x07\x00\x00\x00\x00", "array(3,enum(i2b,A=-2,B=9))": "\xff\xfe\xff\xfe\xff\xfe",
		"array(2,record(4,A@0:i1,B@2:enum(i1,A=5,B=6)))": "\x00\x00\x05\x00\x00\x00\x05\x00", "record(5,A@1:array(2,enum(u1,A=3)),B@4:enum(u1,A=4))": "\x00\x03\x03\x00\x04",
	} {
		check(t, "zero of "+text, impl.ZeroElement(mustType(t, text)), want)
	}
	m := newTypeMaker(12)
	for range 2000 {
		x := m.draw(3, 24)
		zero := impl.ZeroElement(x)
		check(t, "zero of "+impl.TypeText(x), zero, zeroElementOf(x))
		check(t, "zero of "+impl.TypeText(x)+" is an element", impl.ValidElement(x, zero), true)
	}
}

// checkNoElement checks all functions with a string that is no element.
func checkNoElement(t *testing.T, x impl.Type, b string) {
	t.Helper()
	what := impl.TypeText(x) + " with " + impl.HexText(b[:min(30, len(b))])
	n, isNumber := impl.NumberOf(x, b)
	zero := zeroElementOf(x)
	first, isFirst := impl.CompareElements(x, b, zero)
	second, isSecond := impl.CompareElements(x, zero, b)
	check(t, what, []any{impl.ValidElement(x, b), n, isNumber, impl.ElementText(x, b), first, isFirst, second, isSecond},
		[]any{false, int64(0), false, "", int64(0), false, int64(0), false})
	for _, f := range append(slices.Clone(x.Members), member("A", 0, x)) {
		of, part, ok := impl.MemberOf(x, b, f.Name)
		check(t, what+" member", []any{of, part, ok}, []any{impl.Type{}, "", false})
	}
	for k := range max(1, x.Count) {
		of, part, ok := impl.PartOf(x, b, k)
		check(t, what+" part", []any{of, part, ok}, []any{impl.Type{}, "", false})
	}
	// Elements of other lengths may be consecutive elements.
	if len(b) == len(zero) {
		texts, ok := impl.TextsOf(x, zero+b)
		check(t, what+" texts", []any{len(texts), ok}, []any{0, false})
	}
}

func TestP4StringsThatAreNoElements(t *testing.T) {
	for text, list := range map[string][]string{
		"text(1)":                        {"", "ab", "a\x00"},
		"text(3)":                        {"", "ab", "abcd", "\x00ab", "a\x00b", "\x00\x00c", "ab\x00\x00", "\x00\xff\x00"},
		"enum(i1,A=-2,B=1)":              {"", "\x00", "\x02", "\xff", "\xfd", "\x81", "\x01\x00"},
		"enum(u2b,A=1)":                  {"\x01\x00", "\x00\x00", "\x00\x02", "\x00", "\x00\x01\x00"},
		"record(5,A@1:i1,B@3:i1)":        {"", "\x01\x01\x00\x01\x00", "\x00\x01\x01\x01\x00", "\x00\x01\x00\x01\x01", "\x00\x01\x00\x01", "\x00\x01\x00\x01\x00\x00", "\xff\xff\xff\xff\xff"},
		"record(2,A@0:text(2))":          {"\x00a"},
		"record(2,A@0:u1,B@1:text(1))":   {"\x00", "\x00a\x00"},
		"array(2,text(2))":               {"\x00aa\x00", "aa\x00a", "aa", "aaaaa", "aaaaaa", ""},
		"array(2,enum(u1,A=1))":          {"\x00\x01", "\x01\x00", "\x01", "\x01\x01\x01"},
		"array(2,record(2,A@0:u1))":      {"\x00\x01\x00\x00", "\x00\x00\x00\x01", "\x00\x00"},
		"record(4,A@1:record(2,B@0:u1))": {"\x01\x00\x00\x00", "\x00\x00\x01\x00", "\x00\x00\x00\x01"},
	} {
		for _, b := range list {
			checkNoElement(t, mustType(t, text), b)
		}
	}
}

func TestP4ElementsOfOtherLengths(t *testing.T) {
	for _, c := range writtenElements {
		x, b := mustType(t, c[0]), c[1]
		for n := range len(b) {
			checkNoElement(t, x, b[:n])
			checkNoElement(t, x, b+"\x00"+b[:n])
		}
		checkNoElement(t, x, b+b)
		checkNoElement(t, x, b+strings.Repeat("\x00", 256))
		checkNoElement(t, x, b+strings.Repeat("\x00", 65536))
	}
}

// Every byte of an element is replaced by others, so that gaps, texts and enums are hit.
func TestP4ReplacedBytes(t *testing.T) {
	m := newTypeMaker(13)
	elements, others := 0, 0
	for range 1500 {
		x := m.draw(3, 24)
		b, _ := m.drawElement(x)
		for at := range len(b) {
			for _, c := range []string{"\x00", "\x01", "\x4d", "\x7f", "\x80", "\xff"} {
				s := b[:at] + c + b[at+1:]
				if isElementOf(x, s) {
					elements++
					checkElement(t, x, s, impl.ElementText(x, s))
				} else {
					others++
					checkNoElement(t, x, s)
				}
			}
		}
	}
	if elements < 1000 || others < 1000 {
		t.Errorf("%d elements and %d others", elements, others)
	}
}

func TestP4InvalidTypesHaveNoElements(t *testing.T) {
	for _, x := range badTypes() {
		for _, b := range []string{"", "\x00", "\x01", "\x00\x00", "A", `""`, "0", "#0", "[0]", "{A=0}", strings.Repeat("\x00", 24)} {
			checkNoElementOfInvalid(t, x, b)
		}
	}
}

func checkNoElementOfInvalid(t *testing.T, x impl.Type, b string) {
	t.Helper()
	n, isNumber := impl.NumberOf(x, b)
	bytes, isBytes := impl.BytesOf(x, int64(len(b)))
	order, isOrder := impl.CompareElements(x, b, b)
	read, isRead := impl.ReadElement(x, b)
	texts, isTexts := impl.TextsOf(x, b)
	check(t, "invalid type", []any{impl.ValidElement(x, b), impl.ZeroElement(x), n, isNumber, bytes, isBytes, order, isOrder, impl.ElementText(x, b), read, isRead, len(texts), isTexts},
		[]any{false, "", int64(0), false, "", false, int64(0), false, "", "", false, 0, false})
	of, part, ok := impl.MemberOf(x, b, "A")
	check(t, "member of an invalid type", []any{of, part, ok}, []any{impl.Type{}, "", false})
	of, part, ok = impl.PartOf(x, b, 0)
	check(t, "part of an invalid type", []any{of, part, ok}, []any{impl.Type{}, "", false})
}

func TestP4MembersOfCompounds(t *testing.T) {
	x := mustType(t, "record(24,A@1:i2b,b@4:text(3),A_@8:record(4,A@1:u1,B@2:ref),B@20:array(2,enum(u1,P=7)))")
	b := "\x00\x01\x02\x00xy\x00\x00\x00\x05\x06\x00\x00\x00\x00\x00\x00\x00\x00\x00\x07\x07\x00\x00"
	for name, want := range map[string][2]string{"A": {"i2b", "\x01\x02"}, "b": {"text(3)", "xy\x00"},
		"A_": {"record(4,A@1:u1,B@2:ref)", "\x00\x05\x06\x00"}, "B": {"array(2,enum(u1,P=7))", "\x07\x07"}} {
		of, part, ok := impl.MemberOf(x, b, name)
		check(t, "member "+name, []any{impl.TypeText(of), part, ok}, []any{want[0], want[1], true})
	}
	for _, name := range []string{"", "a", "AA", "C", "A ", "P", "A=", "b\x00", strings.Repeat("A", 1000)} {
		of, part, ok := impl.MemberOf(x, b, name)
		check(t, "member "+name, []any{of, part, ok}, []any{impl.Type{}, "", false})
	}
	for _, text := range []string{"i1", "text(2)", "enum(u1,A=0)", "ref", "array(2,record(1,A@0:i1))"} {
		y := mustType(t, text)
		of, part, ok := impl.MemberOf(y, zeroElementOf(y), "A")
		check(t, "member of "+text, []any{of, part, ok}, []any{impl.Type{}, "", false})
	}
}

func TestP4PartsOfArrays(t *testing.T) {
	x := mustType(t, "array(3,record(4,A@1:u2))")
	for k, want := range []string{"\x00\x01\x02\x00", "\x00\x03\x04\x00", "\x00\x05\x06\x00"} {
		of, part, ok := impl.PartOf(x, "\x00\x01\x02\x00\x00\x03\x04\x00\x00\x05\x06\x00", int64(k))
		check(t, "part", []any{impl.TypeText(of), part, ok}, []any{"record(4,A@1:u2)", want, true})
	}
	for _, k := range oddNumbers() {
		of, part, ok := impl.PartOf(x, zeroElementOf(x), k)
		if 0 <= k && k <= 2 {
			check(t, "part", []any{part, ok}, []any{"\x00\x00\x00\x00", true})
		} else {
			check(t, "part outside", []any{of, part, ok}, []any{impl.Type{}, "", false})
		}
	}
	for _, text := range []string{"i1", "text(2)", "enum(u1,A=0)", "ref", "record(2,A@0:array(2,i1))"} {
		y := mustType(t, text)
		of, part, ok := impl.PartOf(y, zeroElementOf(y), 0)
		check(t, "part of "+text, []any{of, part, ok}, []any{impl.Type{}, "", false})
	}
}

func TestP4DrawnMembersAndParts(t *testing.T) {
	m := newTypeMaker(14)
	for range 4000 {
		x := m.draw(3, 24)
		b, _ := m.drawElement(x)
		before := widened(x)
		for _, f := range x.Members {
			of, part, ok := impl.MemberOf(x, b, f.Name)
			check(t, "member", []any{impl.SameType(of, f.Type), part, ok}, []any{true, b[f.Offset:][:sizeOf(f.Type)], true})
			check(t, "member is an element", impl.ValidElement(of, part), true)
			checkApart(t, "member", x, of)
		}
		for k := range x.Count {
			of, part, ok := impl.PartOf(x, b, k)
			size := sizeOf(x.Base[0])
			check(t, "part", []any{impl.SameType(of, x.Base[0]), part, ok}, []any{true, b[k*size:][:size], true})
			check(t, "part is an element", impl.ValidElement(of, part), true)
			checkApart(t, "part", x, of)
		}
		check(t, "type after the calls", widened(x), before)
	}
}

// Each list is in increasing order.
var increasingElements = map[string][]string{
	"i1":                                {"\x80", "\xff", "\x00", "\x01", "\x7f"},
	"u1":                                {"\x00", "\x01", "\x7f", "\x80", "\xff"},
	"i2":                                {"\x00\x80", "\xff\xff", "\x00\x00", "\x02\x00", "\x01\x01", "\xff\x7f"},
	"u2b":                               {"\x00\x00", "\x00\xff", "\x01\x00", "\xff\x00", "\xff\xff"},
	"i8":                                {"\x00\x00\x00\x00\x00\x00\x00\x80", "\xff\xff\xff\xff\xff\xff\xff\xff", "\x00\x00\x00\x00\x00\x00\x00\x00", "\xff\xff\xff\xff\xff\xff\xff\x7f"},
	"ref":                               {"\x00\x00", "\x02\x00", "\x01\x01", "\x00\xff", "\xff\xff"},
	"enum(i1,Z=-1,Y=0,A=1)":             {"\xff", "\x00", "\x01"},
	"enum(u2,B=2,A=257)":                {"\x02\x00", "\x01\x01"},
	"text(3)":                           {"\x00\x00\x00", "A\x00\x00", "AA\x00", "AAA", "AB\x00", "B\x00\x00", "a\x00\x00", "\x7f\x00\x00", "\x80\x00\x00", "\xff\xff\xff"},
	"record(3,B@0:i1,A@2:u1)":           {"\xff\x00\x00", "\xff\x00\xff", "\x00\x00\x01", "\x01\x00\x00"},
	"array(2,i1)":                       {"\x80\x7f", "\xff\x00", "\x00\xff", "\x00\x00", "\x01\x80"},
	"array(2,record(2,A@1:i1))":         {"\x00\xff\x00\x01", "\x00\x00\x00\xff", "\x00\x00\x00\x00"},
	"record(4,A@0:ref,B@2:array(2,u1))": {"\x00\x00\xff\xff", "\x02\x00\x01\x01", "\x02\x00\x01\x02", "\x01\x01\x00\x00"},
}

func TestP4IncreasingElements(t *testing.T) {
	for text, list := range increasingElements {
		x := mustType(t, text)
		for i, a := range list {
			for j, b := range list {
				order, ok := impl.CompareElements(x, a, b)
				want := int64(0)
				if i < j {
					want = -1
				} else if i > j {
					want = 1
				}
				check(t, text+" "+strconv.Itoa(i)+" "+strconv.Itoa(j), []any{order, ok}, []any{want, true})
			}
		}
	}
}

func TestP4ElementsAreTotallyOrdered(t *testing.T) {
	m := newTypeMaker(15)
	for range 1500 {
		x := m.draw(3, 24)
		list := append(extremeElements(x), zeroElementOf(x))
		for range 6 {
			b, _ := m.drawElement(x)
			list = append(list, b)
		}
		slices.SortFunc(list, func(a, b string) int { return compareElementsOf(x, a, b) })
		for i, a := range list {
			for _, b := range list[i:] {
				want := int64(-1)
				if a == b {
					want = 0
				}
				order, ok := impl.CompareElements(x, a, b)
				back, isBack := impl.CompareElements(x, b, a)
				check(t, impl.TypeText(x)+" compared", []any{order, ok, back, isBack}, []any{want, true, -want, true})
			}
		}
	}
}

// textsThatAreNoForms are, for each type, texts that are no text forms of elements.
var textsThatAreNoForms = map[string][]string{
	"i1": {"", " ", "-", "+", "+1", "-0", "01", "-01", "00", " 1", "1 ", "1\n", "1\x00", "1,", "1}", "1]", "1)", ",1", "128", "-129", "256", "1.0", "1e1", "0x1", "1_0", "#1", "\"1\"", "[1]", "{1}",
		"A", "٣", "9223372036854775808", "-9223372036854775809", "99999999999999999999", "--1", "1 2", "1-"},
	"u1":                  {"-1", "256", "-0", "+0", "00"},
	"u2b":                 {"65536", "-1", "065535"},
	"u4":                  {"4294967296", "-1"},
	"i4":                  {"2147483648", "-2147483649"},
	"i8":                  {"9223372036854775808", "-9223372036854775809", "18446744073709551615"},
	"ref":                 {"", "#", "7", "##7", "#-1", "#-0", "#+1", "#07", "# 7", "#7 ", "#65536", "7#", "#7#", "#7,", "#A", "ref", "#\x07\x00"},
	"enum(i1,OFF=0,ON=1)": {"", "off", "On", "ONE", "O", "ON ", " ON", "ON=1", "0", "1", "\"ON\"", "OFF,ON", "ON,", "#1", "ON\x00", "OFFON"},
	"text(2)": {"", `"`, `a`, `"a`, `a"`, `'a'`, `"abc"`, `"a" `, ` "a"`, `"a""`, `""a`, `"a"b"`, `"""`, `"\"`, `"\""`, `"\2"`, `"\22`, `"\2222\"`, `"\2G"`, `"\2A"`, `"\2a`, `"\41"`, `"\20"`, `"\7e"`, `"\5C"`, `"\5`,
		`"\00"`, `"\00\00"`, `"a\00"`, `"\00a"`, "\"\x01\"", "\"\x7f\"", "\"\xff\"", "\"\n\"", "\"\xc3\xa9\"", "\"a\x00\"", "\"\x00\"", `"\\"`, `"\n"`, `"\x22"`, `"\0"`, `"\ 2"`, `"\-1"`, `"\+1"`, `"\22\22\22"`, "[]", "{}"},
	"array(2,i1)": {"", "[", "]", "[]", "[1]", "[1,2", "1,2]", "1,2", "[1,2,3]", "[1,2,]", "[,1,2]", "[1,,2]", "[1;2]", "[1, 2]", "[ 1,2]", "[1,2 ]", "[1,2] ", " [1,2]", "[1,2]]", "[[1,2]", "[[1,2]]", "{1,2}", "[1,2}", "[01,2]", "[1,02]",
		"[1,+2]", "[1,128]", "[-129,1]", "[1,]", "[,2]", "[1 2]", "[1,2],", "(1,2)"},
	"array(2,text(2))":     {`["a"]`, `["a","b]`, `["a,"b"]`, `["a""b"]`, `[a,b]`, `["a","b\00"]`, `["abc","b"]`, `["a","b","c"]`},
	"array(2,array(1,u1))": {"[[1],[2]", "[1],[2]", "[[1,2]]", "[[1][2]]", "[[1],2]", "[1,2]", "[[1],[2],[3]]"},
	"record(3,X@0:i1,Y@1:text(2))": {"", "{", "}", "{}", `{X=5}`, `{Y="A"}`, `{X=5,Y="A"`, `X=5,Y="A"}`, `{X=5,Y="A"}}`, `{{X=5,Y="A"}`, `{X=5,Y="A",}`, `{,X=5,Y="A"}`, `{X=5,,Y="A"}`, `{X=5;Y="A"}`, `{X=5, Y="A"}`, `{ X=5,Y="A"}`,
		`{X =5,Y="A"}`, `{X= 5,Y="A"}`, `{X=5,Y="A" }`, `{X=5,Y="A"} `, `{Y="A",X=5}`, `{X=5,Y="A",X=5}`, `{X=5,Y="A",Z=1}`, `{x=5,Y="A"}`, `{X:5,Y="A"}`, `{5,"A"}`, `{X=05,Y="A"}`, `{X=5,Y="\41"}`, `{X=5,Y=A}`, `{X="A",Y=5}`, `[X=5,Y="A"]`, `{X=5,Y="A"]`,
		`{X==5,Y="A"}`, `{X=,Y="A"}`, `{=5,Y="A"}`, `{X5,Y="A"}`, `{X=5Y="A"}`, `{X=128,Y="A"}`, `{X=5,Y="ABC"}`, `{X=5,XY="A"}`, `{X=5,Y="A"},{X=5,Y="A"}`},
	"record(2,A@0:record(1,B@0:u1),C@1:u1)": {"{A={B=1},C=2", "{A=B=1,C=2}", "{A={B=1,C=2}", "{A={B=1,C=2}}", "{A={B=1}C=2}", "{A={},C=2}", "{A=1,C=2}", "{A.B=1,C=2}"},
}

func TestP4TextsThatAreNoForms(t *testing.T) {
	for text, list := range textsThatAreNoForms {
		x := mustType(t, text)
		for _, s := range list {
			b, ok := impl.ReadElement(x, s)
			check(t, "ReadElement for "+text+" of "+s, []any{b, ok}, []any{"", false})
		}
	}
}

func checkReading(t *testing.T, x impl.Type, s string) {
	t.Helper()
	b, ok := impl.ReadElement(x, s)
	if ok && (!isElementOf(x, b) || impl.ElementText(x, b) != s) || !ok && b != "" {
		t.Errorf("ReadElement for %s of %q: got %q, %v", impl.TypeText(x), s, b, ok)
	}
}

func TestP4EditedTexts(t *testing.T) {
	const alphabet = "\"\\#,=-+0127afAX_{}[] \x00\x7f\xff"
	for _, c := range writtenElements {
		x := mustType(t, c[0])
		edits(c[2], alphabet, func(s string) { checkReading(t, x, s) })
		for _, other := range writtenElements {
			checkReading(t, x, other[2])
			checkReading(t, x, c[2]+other[2])
		}
	}
	m := newTypeMaker(16)
	for range 150 {
		x := m.draw(3, 24)
		_, text := m.drawElement(x)
		edits(text, alphabet, func(s string) { checkReading(t, x, s) })
	}
}

// Of all strings of up to three characters, exactly the text forms are read.
func TestP4AllShortTexts(t *testing.T) {
	const alphabet = "-+0123456789\"#\\af"
	counts := map[string]int{}
	types := map[string]impl.Type{}
	for _, text := range []string{"u1", "i1", "ref", "text(1)", "enum(i1,a=1,f=2,fa=3)"} {
		types[text] = mustType(t, text)
	}
	look := func(s string) {
		for text, x := range types {
			checkReading(t, x, s)
			if _, ok := impl.ReadElement(x, s); ok {
				counts[text]++
			}
		}
	}
	for _, a := range alphabet {
		look(string(a))
		for _, b := range alphabet {
			look(string(a) + string(b))
			for _, c := range alphabet {
				look(string(a) + string(b) + string(c))
			}
		}
	}
	// i1: 0 to 127 and -1 to -99; text(1): the empty one, and one of 15 characters that are not escaped.
	check(t, "texts", counts, map[string]int{"u1": 256, "i1": 128 + 99, "ref": 100, "text(1)": 1 + 15, "enum(i1,a=1,f=2,fa=3)": 3})
}

func TestP4TextsOfData(t *testing.T) {
	for _, c := range []struct {
		text, data string
		want       []string
	}{
		{"i1", "\x01\xff\x00", []string{"1", "-1", "0"}}, {"i2b", "\x00\x01\xff\xff", []string{"1", "-1"}}, {"text(2)", "a\x00\"\n", []string{`"a"`, `"\22\0a"`}},
		{"enum(u1,A=1,B=2)", "\x02\x01\x02", []string{"B", "A", "B"}}, {"ref", "\x01\x00", []string{"#1"}}, {"array(2,u1)", "\x01\x02\x03\x04", []string{"[1,2]", "[3,4]"}},
		{"record(2,A@1:u1)", "\x00\x01\x00\x02\x00\x03", []string{"{A=1}", "{A=2}", "{A=3}"}},
	} {
		texts, ok := impl.TextsOf(mustType(t, c.text), c.data)
		check(t, "texts for "+c.text, []any{texts, ok}, []any{c.want, true})
	}
	for _, c := range writtenElements {
		x := mustType(t, c[0])
		texts, ok := impl.TextsOf(x, "")
		check(t, "texts of nothing for "+c[0], []any{len(texts), ok}, []any{0, true})
		texts, ok = impl.TextsOf(x, strings.Repeat(c[1], 700))
		check(t, "texts for "+c[0], []any{texts, ok}, []any{slices.Repeat([]string{c[2]}, 700), true})
	}
}

func TestP4DataThatIsNoElements(t *testing.T) {
	for text, list := range map[string][]string{
		"u2":                    {"\x01", "\x01\x02\x03", "\x01\x02\x03\x04\x05"},
		"i8":                    {"\x00\x00\x00\x00\x00\x00\x00", "\x00\x00\x00\x00\x00\x00\x00\x00\x00"},
		"text(2)":               {"\x00a", "ab\x00a", "\x00aab", "ab\x00aab", "aba"},
		"enum(u1,A=1,B=2)":      {"\x00", "\x01\x03", "\x03\x01", "\x01\x00\x01"},
		"record(2,A@1:u1)":      {"\x01\x01", "\x00\x01\x01\x01", "\x00\x01\x00"},
		"array(2,enum(u1,A=1))": {"\x01\x01\x01", "\x01\x01\x01\x00"},
	} {
		for _, data := range list {
			texts, ok := impl.TextsOf(mustType(t, text), data)
			check(t, "texts for "+text, []any{len(texts), ok}, []any{0, false})
		}
	}
}

func TestP4DrawnTextsOfData(t *testing.T) {
	m := newTypeMaker(17)
	for range 2000 {
		x := m.draw(3, 24)
		data, want := m.drawElements(x)
		texts, ok := impl.TextsOf(x, data)
		check(t, "texts", []any{len(texts), slices.Equal(texts, want), ok}, []any{len(want), true, true})
		checkApart(t, "texts", x, texts)
	}
}

func elementResults(x impl.Type, a, b string, n int64) []any {
	number, isNumber := impl.NumberOf(x, a)
	bytes, isBytes := impl.BytesOf(x, n)
	of, member, isMember := impl.MemberOf(x, a, b)
	base, part, isPart := impl.PartOf(x, a, n)
	order, isOrder := impl.CompareElements(x, a, b)
	read, isRead := impl.ReadElement(x, a)
	texts, isTexts := impl.TextsOf(x, a)
	return []any{impl.ValidElement(x, a), impl.ZeroElement(x), number, isNumber, bytes, isBytes, of, member, isMember, base, part, isPart,
		order, isOrder, impl.ElementText(x, a), read, isRead, texts, isTexts}
}

func TestP1ElementsReturnForAllArguments(t *testing.T) {
	list, texts, nums := oddTypes(), oddStrings(), oddNumbers()
	for _, c := range writtenElements {
		list = append(list, mustType(t, c[0]))
	}
	for i, x := range list {
		a, b, n := texts[i%len(texts)], texts[i/2%len(texts)], nums[i%len(nums)]
		check(t, "second call", elementResults(roomy(x), a, b, n), elementResults(x, a, b, n))
	}
	for _, c := range writtenElements {
		x := mustType(t, c[0])
		for i, a := range texts {
			check(t, "second call", elementResults(roomy(x), a, c[1], nums[i%len(nums)]), elementResults(x, a, c[1], nums[i%len(nums)]))
			elementResults(x, c[1], a, nums[i%len(nums)])
		}
	}
}

func TestP1ElementsLeaveTypesAsTheyAre(t *testing.T) {
	m := newTypeMaker(18)
	for range 500 {
		x := roomy(m.draw(3, 24))
		b, text := m.drawElement(x)
		before := widened(x)
		name := "A"
		if len(x.Members) > 0 {
			name = x.Members[0].Name
		}
		first := []any{elementResults(x, b, name, 0), elementResults(x, text, b, 1), elementResults(x, b, b, 1)}
		check(t, "type after the calls", widened(x), before)
		check(t, "second call", []any{elementResults(x, b, name, 0), elementResults(x, text, b, 1), elementResults(x, b, b, 1)}, first)
	}
}

func TestP1LongElements(t *testing.T) {
	withSmallStack(func() { checkLongElements(t) })
}

func checkLongElements(t *testing.T) {
	const many = 300000
	for _, c := range writtenElements {
		x := mustType(t, c[0])
		for _, s := range []string{strings.Repeat("[", many), strings.Repeat("{", many), strings.Repeat(`"`, many), strings.Repeat(`\`, many), `"` + strings.Repeat(`\22`, many) + `"`,
			`"` + strings.Repeat("a", many) + `"`, strings.Repeat("9", many), "-" + strings.Repeat("0", many), "#" + strings.Repeat("0", many), strings.Repeat(c[2]+",", many/10),
			"[" + strings.Repeat(c[2]+",", many/10), strings.Repeat("\xff", many)} {
			b, ok := impl.ReadElement(x, s)
			check(t, "ReadElement of a long string for "+c[0], []any{b, ok}, []any{"", false})
			check(t, "ValidElement of a long string for "+c[0], impl.ValidElement(x, s), false)
		}
	}
}
