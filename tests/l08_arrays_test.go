package tests

import (
	"math"
	"slices"
	"strings"
	"testing"

	"loop.example/g00904/impl"
)

// letters is the array of the document's examples.
func letters() impl.Array {
	return arrayIn(textType(1), []int64{2, 3}, "abcdef")
}

func TestP9ValidArrays(t *testing.T) {
	m := newTypeMaker(51)
	edited := 0
	for range 500 {
		a := m.drawArray()
		check(t, "ValidArray", impl.ValidArray(a), true)
		size := int(sizeOf(a.Type))
		more := a
		more.Data += zeroElementOf(a.Type)
		check(t, "one element more", impl.ValidArray(more), false)
		if a.Data == "" {
			continue
		}
		edited++
		for _, data := range []string{a.Data[size:], a.Data[1:], a.Data + "\x00", ""} {
			check(t, "other length", impl.ValidArray(arrayIn(a.Type, a.Dims, data)), false)
		}
		bytes := []byte(a.Data)
		bytes[m.IntN(len(bytes))] = byte(m.IntN(256))
		changed := arrayIn(a.Type, a.Dims, string(bytes))
		if got := impl.ValidArray(changed); got != isArray(changed) {
			t.Fatalf("ValidArray of %s: got %v", shown(changed), got)
		}
	}
	if edited < 300 {
		t.Errorf("only %d arrays with elements", edited)
	}
	for _, a := range []impl.Array{
		letters(), arrayIn(textType(1), nil, "q"), arrayIn(textType(1), []int64{}, "q"), arrayIn(textType(1), []int64{0}, ""), arrayIn(textType(1), []int64{0, 40, 40}, ""), arrayIn(textType(16), []int64{25, 24}, strings.Repeat("a", 9600)),
		arrayIn(intType(8, true, false), []int64{40, 15}, strings.Repeat("\xff", 4800)), arrayIn(arrayType(3, intType(8, true, false)), []int64{8, 15, 5}, strings.Repeat("a", 14400)),
	} {
		check(t, "ValidArray of "+shown(a.Dims), impl.ValidArray(a), true)
	}
}

// checkInvalidArray checks that each function finds an invalid array before all else.
func checkInvalidArray(t *testing.T, a impl.Array) {
	t.Helper()
	what := shown(a.Type.Kind, a.Type.Size, a.Dims, len(a.Data))
	check(t, "ValidArray of "+what, impl.ValidArray(a), false)
	for _, at := range [][]int64{nil, {0}, {0, 0}, {-1}, {0, 0, 0, 0}} {
		b, code := impl.ElementAt(a, at)
		check(t, "ElementAt of "+what, []any{b, code}, []any{"", int64(impl.ErrInvalid)})
	}
	for _, x := range []impl.Selection{selectAll, selectNone, pointsOf(nil), {}} {
		data, code := impl.Gather(a, x)
		check(t, "Gather of "+what, []any{data, code}, []any{"", int64(impl.ErrInvalid)})
		for _, data := range []string{"", "a", a.Data} {
			scattered, code := impl.Scatter(a, x, data)
			checkNoArray(t, "Scatter of "+what, scattered, code, impl.ErrInvalid)
			filled, code := impl.FillSelected(a, x, data)
			checkNoArray(t, "FillSelected of "+what, filled, code, impl.ErrInvalid)
		}
	}
	for _, list := range [][]int64{nil, {0}, {0, 1}, {-1}, {1, 1, 1, 1}, a.Dims} {
		for _, fill := range []string{"", "a", "ab"} {
			resized, code := impl.ResizeArray(a, list, fill)
			checkNoArray(t, "ResizeArray of "+what, resized, code, impl.ErrInvalid)
		}
		transposed, code := impl.TransposeArray(a, list)
		checkNoArray(t, "TransposeArray of "+what, transposed, code, impl.ErrInvalid)
		reshaped, code := impl.ReshapeArray(a, list)
		checkNoArray(t, "ReshapeArray of "+what, reshaped, code, impl.ErrInvalid)
	}
	for _, of := range []impl.Type{a.Type, refType(), textType(2), {}} {
		converted, code := impl.ConvertArray(a, of, true)
		checkNoArray(t, "ConvertArray of "+what, converted, code, impl.ErrInvalid)
	}
}

func TestP9ArraysThatAreNotValid(t *testing.T) {
	for _, a := range badArrays() {
		checkInvalidArray(t, a)
	}
}

func TestP9SameArrays(t *testing.T) {
	base := arrayIn(arrayType(2, intType(2, true, false)), []int64{1, 90, -3}, "abc")
	check(t, "same", impl.SameArray(base, roomyArray(base)), true)
	for i, change := range []func(a *impl.Array){
		func(a *impl.Array) { a.Data = "abd" }, func(a *impl.Array) { a.Data = "ab" }, func(a *impl.Array) { a.Data += "\x00" }, func(a *impl.Array) { a.Dims[2] = 3 }, func(a *impl.Array) { a.Dims = a.Dims[:2] }, func(a *impl.Array) { a.Dims = nil },
		func(a *impl.Array) { a.Type.Count = 3 }, func(a *impl.Array) { a.Type.Base[0].Big = true }, func(a *impl.Array) { a.Type = impl.Type{} }, func(a *impl.Array) { a.Type.Names = []string{""} },
	} {
		a := roomyArray(base)
		change(&a)
		check(t, "change", []any{i, impl.SameArray(base, a), impl.SameArray(a, base), impl.SameArray(a, a)}, []any{i, false, false, true})
	}
	check(t, "nil and empty", impl.SameArray(arrayIn(textType(1), nil, ""), arrayIn(textType(1), []int64{}, "")), true)
	for _, of := range []impl.Type{selfContaining(1, 1), selfContaining(3, 2), selfContainingCompound(), selfContainingEnum()} {
		check(t, "type that contains itself", impl.SameArray(arrayIn(of, nil, ""), arrayIn(of, nil, "")), true)
		check(t, "type that contains itself", impl.SameArray(arrayIn(of, nil, "a"), arrayIn(refType(), nil, "a")), false)
	}
}

func TestP9NewArrays(t *testing.T) {
	m := newTypeMaker(52)
	for range 500 {
		of, dims := m.draw(3, 24), m.drawDims()
		fill, _ := m.drawElement(of)
		a, code := impl.NewArray(of, dims, fill)
		checkArray(t, "NewArray", a, code, arrayFrom(of, dims, func(at []int64) string { return fill }), of, dims)
		for _, none := range []string{fill + "\x00", fill[1:], "", fill + fill} {
			a, code = impl.NewArray(of, dims, none)
			checkNoArray(t, "NewArray of "+shown(of, dims, none), a, code, impl.ErrInvalid)
		}
	}
	for _, c := range writtenDims {
		a, code := impl.NewArray(textType(2), c.dims, "ab")
		if c.elements < 0 {
			checkNoArray(t, "NewArray of "+shown(c.dims), a, code, impl.ErrInvalid)
			continue
		}
		checkArray(t, "NewArray of "+shown(c.dims), a, code, arrayIn(textType(2), c.dims, strings.Repeat("ab", int(c.elements))), c.dims)
		for _, fill := range fillsThatAreNone() {
			a, code = impl.NewArray(textType(2), c.dims, fill)
			checkNoArray(t, "NewArray of "+shown(c.dims, fill), a, code, impl.ErrInvalid)
		}
	}
	for _, of := range badTypes() {
		for _, fill := range []string{"", "a", "ab"} {
			a, code := impl.NewArray(of, []int64{0}, fill)
			checkNoArray(t, "NewArray of "+shown(of.Kind, fill), a, code, impl.ErrInvalid)
		}
	}
}

func TestP9ElementsOfArrays(t *testing.T) {
	m := newTypeMaker(53)
	for range 200 {
		a := m.drawArray()
		elements := elementsIn(a)
		for _, at := range rowMajor(a.Dims) {
			b, code := impl.ElementAt(a, at)
			check(t, "ElementAt "+shown(at), []any{b, code}, []any{elements[numbersText(at)], int64(impl.OK)})
			if m.IntN(20) > 0 {
				continue
			}
			for i, n := range a.Dims {
				for _, c := range []int64{math.MinInt64, -1, n, n + 1, math.MaxInt64} {
					outside := slices.Clone(at)
					outside[i] = c
					b, code = impl.ElementAt(a, outside)
					check(t, "ElementAt "+shown(outside), []any{b, code}, []any{"", int64(impl.ErrRange)})
				}
			}
		}
		for _, at := range [][]int64{a.Dims, append(slices.Clone(a.Dims), 0), {0, 0, 0, 0}, {-1}} {
			if len(a.Dims) > 0 {
				b, code := impl.ElementAt(a, at)
				check(t, "ElementAt "+shown(at), []any{b, code}, []any{"", int64(impl.ErrRange)})
			}
		}
	}
	one := arrayIn(textType(2), nil, "q\x00")
	b, code := impl.ElementAt(one, nil)
	check(t, "ElementAt of rank 0", []any{b, code}, []any{"q\x00", int64(impl.OK)})
	b, code = impl.ElementAt(one, []int64{0})
	check(t, "ElementAt of rank 0", []any{b, code}, []any{"", int64(impl.ErrRange)})
}

func TestP9WrittenSelections(t *testing.T) {
	for _, c := range []struct {
		dims                             []int64
		data, text, got, scattered, fill string
	}{
		{[]int64{2, 3}, "abcdef", "slab(0,1;1,1;2,2;1,1)", "bcef", "a12d34", "a--d--"}, {[]int64{2, 3}, "abcdef", "all", "abcdef", "123456", "------"}, {[]int64{2, 3}, "abcdef", "none", "", "abcdef", "abcdef"},
		{[]int64{2, 3}, "abcdef", "points(0,0;1,1;0,0)", "aea", "3bcd2f", "-bcd-f"}, {[]int64{2, 3}, "abcdef", "points(1,2;1,1;1,0)", "fed", "abc321", "abc---"}, {[]int64{2, 3}, "abcdef", "points(0,1;0,1;0,1;0,1)", "bbbb", "a4cdef", "a-cdef"},
		{[]int64{6}, "abcdef", "slab(1;3;2;2)", "bcef", "a12d34", "a--d--"}, {[]int64{6}, "abcdef", "slab(0;2;3;1)", "ace", "1b2d3f", "-b-d-f"}, {[]int64{6}, "abcdef", "points(5)", "f", "abcde1", "abcde-"}, {[]int64{1, 2, 3}, "abcdef", "slab(0,0,0;1,1,2;1,2,2;1,1,1)", "acdf", "1b23e4", "-b--e-"},
		{nil, "q", "all", "q", "1", "-"}, {nil, "q", "none", "", "q", "q"}, {nil, "q", "slab(;;;)", "q", "1", "-"}, {nil, "q", "points(;;)", "qqq", "3", "-"}, {[]int64{0}, "", "all", "", "", ""}, {[]int64{3, 0}, "", "none", "", "", ""},
	} {
		x, _ := impl.ReadSelection(c.text)
		a := arrayIn(textType(1), c.dims, c.data)
		got, code := impl.Gather(a, x)
		check(t, "Gather of "+c.text, []any{got, code}, []any{c.got, int64(impl.OK)})
		scattered, code := impl.Scatter(a, x, "123456789"[:len(got)])
		checkArray(t, "Scatter of "+c.text, scattered, code, arrayIn(textType(1), c.dims, c.scattered), a, x)
		filled, code := impl.FillSelected(a, x, "-")
		checkArray(t, "FillSelected of "+c.text, filled, code, arrayIn(textType(1), c.dims, c.fill), a, x)
	}
}

// What is scattered is gathered, and every other element is unchanged.
func TestP9DrawnSelections(t *testing.T) {
	m := newTypeMaker(54)
	repeated := 0
	for range 600 {
		a := m.drawArray()
		x := m.drawSelection(a.Dims)
		selected, _ := selectedOf(a.Dims, x)
		before, after, filled := elementsIn(a), elementsIn(a), elementsIn(a)
		fill, _ := m.drawElement(a.Type)
		var old, fresh, last []string
		for _, at := range selected {
			b, _ := m.drawElement(a.Type)
			old, fresh = append(old, before[numbersText(at)]), append(fresh, b)
			after[numbersText(at)], filled[numbersText(at)] = b, fill
		}
		for _, at := range selected {
			last = append(last, after[numbersText(at)])
		}
		if !slices.Equal(last, fresh) {
			repeated++
		}
		what := shown(x) + " in " + shown(a.Dims)
		gathered, code := impl.Gather(a, x)
		check(t, "Gather of "+what, []any{gathered, code}, []any{strings.Join(old, ""), int64(impl.OK)})
		scattered, code := impl.Scatter(a, x, strings.Join(fresh, ""))
		checkArray(t, "Scatter of "+what, scattered, code, arrayFrom(a.Type, a.Dims, func(at []int64) string { return after[numbersText(at)] }), a, x)
		gathered, code = impl.Gather(scattered, x)
		check(t, "Gather after Scatter of "+what, []any{gathered, code}, []any{strings.Join(last, ""), int64(impl.OK)})
		back, code := impl.Scatter(scattered, x, strings.Join(old, ""))
		checkArray(t, "Scatter of the old elements of "+what, back, code, a, scattered, x)
		result, code := impl.FillSelected(a, x, fill)
		checkArray(t, "FillSelected of "+what, result, code, arrayFrom(a.Type, a.Dims, func(at []int64) string { return filled[numbersText(at)] }), a, x)
	}
	if repeated < 30 {
		t.Errorf("only %d selections in which the last element counts", repeated)
	}
}

func TestP9SelectionsThatAreNotValid(t *testing.T) {
	arrays := []impl.Array{letters(), arrayIn(textType(1), nil, "q"), arrayIn(textType(1), []int64{0}, ""), arrayIn(textType(1), []int64{40}, strings.Repeat("a", 40))}
	list := append(illFormed(), slabOf([]int64{0, 0}, []int64{1, 1}, []int64{3, 1}, []int64{1, 1}), slabOf([]int64{0, 3}, []int64{1, 1}, []int64{1, 1}, []int64{1, 1}), pointsOf([]int64{1, 2}, []int64{2, 0}), pointsOf([]int64{0, 3}), slabOf([]int64{0, 0, 0}, []int64{1, 1, 1}, []int64{1, 1, 1}, []int64{1, 1, 1}), pointsOf([]int64{40, 0}))
	for _, a := range arrays {
		for _, x := range list {
			what := shown(x) + " in " + shown(a.Dims)
			data, code := impl.Gather(a, x)
			check(t, "Gather of "+what, []any{data, code}, []any{"", int64(impl.ErrRange)})
			// Neither data nor fill are looked at.
			for _, data := range []string{"", "a", "ab"} {
				scattered, code := impl.Scatter(a, x, data)
				checkNoArray(t, "Scatter of "+what, scattered, code, impl.ErrRange)
				filled, code := impl.FillSelected(a, x, data)
				checkNoArray(t, "FillSelected of "+what, filled, code, impl.ErrRange)
			}
		}
	}
}

func TestP9DataThatIsNotScattered(t *testing.T) {
	text := textType(2)
	small := enumType(intType(1, true, false), []string{"A", "B"}, []int64{1, 2})
	for _, c := range []struct {
		a    impl.Array
		text string
		data []string
	}{
		{arrayIn(text, []int64{2, 3}, "a1b2c3d4e5f6"), "slab(0,1;1,1;2,2;1,1)", []string{"", "ab", "abcdef", "abcdefghij", "abcdefg", "abcdefghi", "\x00bcdefgh", "abcd\x00fgh", "abcdef\x00h", strings.Repeat("ab", 100000)}},
		{arrayIn(text, []int64{2, 3}, "a1b2c3d4e5f6"), "none", []string{"a", "ab", "\x00\x00", "abcdefghijkl"}}, {arrayIn(text, []int64{2, 3}, "a1b2c3d4e5f6"), "all", []string{"", "ab", "abcdefghij", "abcdefghijk", "abcdefghij\x00l"}},
		{arrayIn(text, []int64{2, 3}, "a1b2c3d4e5f6"), "points(0,0;0,0)", []string{"", "ab", "abc", "abcdef", "\x00bcd", "ab\x00d"}}, {arrayIn(text, nil, "ab"), "all", []string{"", "a", "abc", "abcd", "\x00a"}}, {arrayIn(text, []int64{0}, ""), "all", []string{"a", "ab", "\x00\x00"}},
		{arrayIn(small, []int64{2}, "\x01\x02"), "all", []string{"", "\x01", "\x01\x03", "\x00\x01", "\x01\x01\x01"}}, {arrayIn(small, []int64{2}, "\x01\x02"), "points(1)", []string{"", "\x03", "\x01\x01"}},
	} {
		x, _ := impl.ReadSelection(c.text)
		for _, data := range c.data {
			scattered, code := impl.Scatter(c.a, x, data)
			checkNoArray(t, "Scatter of "+impl.HexText(data)+" to "+c.text, scattered, code, impl.ErrType)
		}
		fills := fillsThatAreNone()
		if c.a.Type.Kind == impl.TyEnum {
			fills = []string{"", "\x00", "\x03", "\x01\x01"}
		}
		for _, fill := range fills {
			filled, code := impl.FillSelected(c.a, x, fill)
			checkNoArray(t, "FillSelected with "+impl.HexText(fill)+" in "+c.text, filled, code, impl.ErrType)
			resized, code := impl.ResizeArray(c.a, c.a.Dims, fill)
			checkNoArray(t, "ResizeArray with "+impl.HexText(fill), resized, code, impl.ErrType)
		}
	}
}

func TestP9WrittenSizes(t *testing.T) {
	for _, c := range []struct {
		dims  []int64
		data  string
		fresh []int64
		want  string
	}{
		{[]int64{2, 3}, "abcdef", []int64{3, 2}, "abde.."}, {[]int64{2, 3}, "abcdef", []int64{2, 3}, "abcdef"}, {[]int64{2, 3}, "abcdef", []int64{3, 4}, "abc.def....."}, {[]int64{2, 3}, "abcdef", []int64{1, 1}, "a"}, {[]int64{2, 3}, "abcdef", []int64{0, 3}, ""}, {[]int64{2, 3}, "abcdef", []int64{1, 5}, "abc.."},
		{[]int64{2, 3}, "abcdef", []int64{4, 1}, "ad.."}, {[]int64{0, 3}, "", []int64{1, 2}, ".."}, {[]int64{3}, "abc", []int64{5}, "abc.."}, {[]int64{3}, "abc", []int64{0}, ""}, {[]int64{0}, "", []int64{2}, ".."}, {[]int64{0}, "", []int64{0}, ""}, {[]int64{1}, "a", []int64{40}, "a" + strings.Repeat(".", 39)}, {nil, "q", nil, "q"},
		{[]int64{2, 2, 2}, "abcdefgh", []int64{1, 2, 3}, "ab.cd."}, {[]int64{2, 2, 2}, "abcdefgh", []int64{2, 1, 2}, "abef"}, {[]int64{1, 1, 2}, "ab", []int64{2, 2, 1}, "a..."}, {[]int64{1, 1}, "a", []int64{25, 24}, "a" + strings.Repeat(".", 599)},
	} {
		a := arrayIn(textType(1), c.dims, c.data)
		resized, code := impl.ResizeArray(a, c.fresh, ".")
		checkArray(t, "ResizeArray of "+c.data+" to "+shown(c.fresh), resized, code, arrayIn(textType(1), c.fresh, c.want), a, c.fresh)
	}
}

func TestP9DrawnSizes(t *testing.T) {
	m := newTypeMaker(55)
	undone := 0
	for range 1000 {
		a := m.drawArray()
		dims := m.drawDims()
		fill, _ := m.drawElement(a.Type)
		resized, code := impl.ResizeArray(a, dims, fill)
		if len(dims) != len(a.Dims) {
			checkNoArray(t, "ResizeArray to another rank", resized, code, impl.ErrRange)
			continue
		}
		elements := elementsIn(a)
		want := arrayFrom(a.Type, dims, func(at []int64) string {
			if b, ok := elements[numbersText(at)]; ok {
				return b
			}
			return fill
		})
		checkArray(t, "ResizeArray to "+shown(dims), resized, code, want, a, dims)
		// What has grown is as before when it gets its old dimensions again.
		grown := make([]int64, len(dims))
		for i, n := range a.Dims {
			grown[i] = max(n, dims[i])
		}
		if isDims(grown) {
			undone++
			larger, code := impl.ResizeArray(a, grown, fill)
			check(t, "ResizeArray to "+shown(grown), code, int64(impl.OK))
			back, code := impl.ResizeArray(larger, a.Dims, fill)
			checkArray(t, "ResizeArray back to "+shown(a.Dims), back, code, a, larger)
		}
	}
	if undone < 100 {
		t.Errorf("only %d changes were undone", undone)
	}
}

func TestP9SizesThatAreNone(t *testing.T) {
	for _, a := range []impl.Array{letters(), arrayIn(textType(1), nil, "q"), arrayIn(textType(1), []int64{0}, ""), arrayIn(textType(1), []int64{1, 1, 1}, "q")} {
		for _, c := range writtenDims {
			for _, fill := range []string{".", "", "..", "..."} {
				resized, code := impl.ResizeArray(a, c.dims, fill)
				what := "ResizeArray of " + shown(a.Dims) + " to " + shown(c.dims) + " with " + fill
				if c.elements < 0 || len(c.dims) != len(a.Dims) {
					checkNoArray(t, what, resized, code, impl.ErrRange)
				} else if fill != "." {
					checkNoArray(t, what, resized, code, impl.ErrType)
				} else {
					check(t, what, code, int64(impl.OK))
				}
			}
		}
	}
}

func TestP9WrittenTranspositions(t *testing.T) {
	cube := "abcdefghijklmnopqrstuvwx"
	for _, c := range []struct {
		dims  []int64
		data  string
		order []int64
		fresh []int64
		want  string
	}{
		{[]int64{2, 3}, "abcdef", []int64{1, 0}, []int64{3, 2}, "adbecf"}, {[]int64{2, 3}, "abcdef", []int64{0, 1}, []int64{2, 3}, "abcdef"}, {[]int64{6}, "abcdef", []int64{0}, []int64{6}, "abcdef"}, {nil, "q", nil, nil, "q"}, {[]int64{0, 3}, "", []int64{1, 0}, []int64{3, 0}, ""},
		{[]int64{2, 3, 4}, cube, []int64{0, 1, 2}, []int64{2, 3, 4}, cube}, {[]int64{2, 3, 4}, cube, []int64{0, 2, 1}, []int64{2, 4, 3}, "aeibfjcgkdhlmqunrvoswptx"}, {[]int64{2, 3, 4}, cube, []int64{1, 0, 2}, []int64{3, 2, 4}, "abcdmnopefghqrstijkluvwx"},
		{[]int64{2, 3, 4}, cube, []int64{1, 2, 0}, []int64{3, 4, 2}, "ambncodpeqfrgshtiujvkwlx"}, {[]int64{2, 3, 4}, cube, []int64{2, 0, 1}, []int64{4, 2, 3}, "aeimqubfjnrvcgkoswdhlptx"}, {[]int64{2, 3, 4}, cube, []int64{2, 1, 0}, []int64{4, 3, 2}, "ameqiubnfrjvcogskwdphtlx"},
		{[]int64{1, 40}, strings.Repeat("ab", 20), []int64{1, 0}, []int64{40, 1}, strings.Repeat("ab", 20)},
	} {
		a := arrayIn(textType(1), c.dims, c.data)
		transposed, code := impl.TransposeArray(a, c.order)
		checkArray(t, "TransposeArray by "+shown(c.order), transposed, code, arrayIn(textType(1), c.fresh, c.want), a, c.order)
	}
}

// Every order is undone by the one that puts each dimension back.
func TestP9DrawnTranspositions(t *testing.T) {
	m := newTypeMaker(56)
	for range 200 {
		a := m.drawArray()
		elements := elementsIn(a)
		rank := len(a.Dims)
		for _, order := range permutations(int64(rank)) {
			dims, back := make([]int64, rank), make([]int64, rank)
			for i, k := range order {
				dims[i], back[k] = a.Dims[k], int64(i)
			}
			want := arrayFrom(a.Type, dims, func(at []int64) string {
				old := make([]int64, rank)
				for i, k := range order {
					old[k] = at[i]
				}
				return elements[numbersText(old)]
			})
			transposed, code := impl.TransposeArray(a, order)
			checkArray(t, "TransposeArray by "+shown(order), transposed, code, want, a, order)
			again, code := impl.TransposeArray(transposed, back)
			checkArray(t, "TransposeArray by "+shown(order)+" and back", again, code, a, transposed, back)
		}
	}
}

func TestP9OrdersThatAreNoPermutation(t *testing.T) {
	arrays := []impl.Array{arrayIn(textType(1), nil, "q"), arrayIn(textType(1), []int64{6}, "abcdef"), letters(), arrayIn(textType(1), []int64{1, 2, 3}, "abcdef")}
	for rank, a := range arrays {
		right := permutations(int64(rank))
		for length := range 5 {
			for _, order := range everyDims(length, []int64{math.MinInt64, -1, 0, 1, 2, 3, 4, math.MaxInt64}) {
				if slices.ContainsFunc(right, func(x []int64) bool { return slices.Equal(x, order) }) {
					continue
				}
				transposed, code := impl.TransposeArray(a, order)
				if code != impl.ErrRange || !sameArrays(transposed, impl.Array{}) {
					t.Fatalf("TransposeArray of rank %d by %v: got %s, %d", rank, order, shown(transposed), code)
				}
			}
		}
		transposed, code := impl.TransposeArray(a, make([]int64, 100000))
		checkNoArray(t, "TransposeArray by a long order", transposed, code, impl.ErrRange)
	}
}

func TestP9Shapes(t *testing.T) {
	m := newTypeMaker(57)
	found := 0
	for _, old := range [][]int64{nil, {1}, {12}, {3, 4}, {2, 2, 3}, {0}, {3, 0}, {0, 40, 40}, {40}, {25, 24}, {15, 8, 5}, {7, 5}} {
		a := m.drawArrayOf(m.draw(3, 24), old)
		count := elementsOf(old)
		var shapes [][]int64
		for rank := range 4 {
			shapes = append(shapes, everyDims(rank, []int64{-1, 0, 1, 2, 3, 4, 5, 6, 7, 8, 12, 15, 24, 25, 35, 40, 41})...)
		}
		shapes = append(shapes, []int64{1, 1, 1, 1}, []int64{12, 1, 1, 1}, make([]int64, 4), []int64{600}, []int64{-3, -4}, []int64{math.MinInt64, 0}, []int64{1 << 32, 1 << 32}, []int64{math.MaxInt64, math.MaxInt64})
		for _, dims := range shapes {
			reshaped, code := impl.ReshapeArray(a, dims)
			if elementsOf(dims) != count {
				if code != impl.ErrRange || !sameArrays(reshaped, impl.Array{}) {
					t.Fatalf("ReshapeArray of %v to %v: got %s, %d", old, dims, shown(reshaped), code)
				}
				continue
			}
			found++
			checkArray(t, "ReshapeArray of "+shown(old)+" to "+shown(dims), reshaped, code, arrayIn(a.Type, dims, a.Data), a, dims)
			back, code := impl.ReshapeArray(reshaped, old)
			checkArray(t, "ReshapeArray of "+shown(dims)+" to "+shown(old), back, code, a, reshaped, old)
		}
	}
	if found < 300 {
		t.Errorf("only %d shapes", found)
	}
}

func TestP9WrittenConversions(t *testing.T) {
	for _, c := range []struct {
		from, to string
		dims     []int64
		data     string
		clamp    bool
		want     string
		code     int64
	}{
		{"u2", "i4b", []int64{3}, "\x01\x02\x01\x02\x01\x02", false, "\x00\x00\x02\x01\x00\x00\x02\x01\x00\x00\x02\x01", impl.OK}, {"u2", "u1", []int64{3}, "\x01\x02\x01\x02\x01\x02", false, "", impl.ErrConvert}, {"u2", "u1", []int64{3}, "\x01\x02\x01\x02\x01\x02", true, "\xff\xff\xff", impl.OK},
		{"u2", "u1", []int64{2, 2}, "\x01\x00\x02\x00\x03\x00\x04\x00", false, "\x01\x02\x03\x04", impl.OK}, {"u2", "u1", []int64{2, 2}, "\x01\x01\x02\x00\x03\x00\x04\x00", false, "", impl.ErrConvert}, {"u2", "u1", []int64{2, 2}, "\x01\x00\x02\x00\x03\x00\x04\x01", false, "", impl.ErrConvert},
		{"u2", "u1", []int64{2, 2}, "\x01\x00\x02\x00\x03\x00\x04\x01", true, "\x01\x02\x03\xff", impl.OK}, {"u2", "text(2)", []int64{1}, "\x01\x02", true, "", impl.ErrType}, {"u2", "text(2)", []int64{0}, "", false, "", impl.ErrType}, {"u2", "u1", []int64{0, 3}, "", false, "", impl.OK},
		{"u2", "u1", nil, "\x07\x00", false, "\x07", impl.OK}, {"u2", "u1", nil, "\x07\x01", false, "", impl.ErrConvert}, {"text(2)", "text(1)", []int64{2}, "a\x00bc", false, "", impl.ErrConvert}, {"text(2)", "text(1)", []int64{2}, "a\x00bc", true, "ab", impl.OK}, {"text(1)", "text(3)", []int64{2}, "a\x00", false, "a\x00\x00\x00\x00\x00", impl.OK},
		{"enum(i1,A=1,B=2)", "enum(u2b,B=5,A=7)", []int64{2}, "\x02\x01", false, "\x00\x05\x00\x07", impl.OK}, {"ref", "ref", []int64{1}, "\x01\x02", false, "\x01\x02", impl.OK}, {"ref", "u2", []int64{1}, "\x01\x02", true, "", impl.ErrType},
		{"record(3,A@0:u1,B@1:u2)", "record(2,B@0:u1,C@1:enum(i1,NEW=7))", []int64{2}, "\x01\x02\x00\x03\x04\x00", false, "\x02\x07\x04\x07", impl.OK}, {"record(3,A@0:u1,B@1:u2)", "record(2,B@0:u1,C@1:enum(i1,NEW=7))", []int64{2}, "\x01\x02\x00\x03\x04\x01", false, "", impl.ErrConvert},
	} {
		what := "ConvertArray of " + c.from + " to " + c.to + " of " + impl.HexText(c.data)
		a, to := arrayIn(mustType(t, c.from), c.dims, c.data), mustType(t, c.to)
		converted, code := impl.ConvertArray(a, to, c.clamp)
		if c.code != impl.OK {
			checkNoArray(t, what, converted, code, c.code)
			continue
		}
		checkArray(t, what, converted, code, arrayIn(to, c.dims, c.want), a, to)
	}
	for _, to := range badTypes() {
		for _, a := range []impl.Array{letters(), arrayIn(refType(), []int64{0}, "")} {
			converted, code := impl.ConvertArray(a, to, true)
			checkNoArray(t, "ConvertArray to an invalid type", converted, code, impl.ErrInvalid)
		}
	}
}

// One element that cannot be converted is enough, wherever it is.
func TestP9ConversionsThatFailAtOneElement(t *testing.T) {
	from, to := mustType(t, "u2"), mustType(t, "u1")
	for k := range 12 {
		data := strings.Repeat("\x07\x00", k) + "\x00\x01" + strings.Repeat("\x07\x00", 11-k)
		a := arrayIn(from, []int64{3, 4}, data)
		converted, code := impl.ConvertArray(a, to, false)
		checkNoArray(t, "ConvertArray of "+impl.HexText(data), converted, code, impl.ErrConvert)
		converted, code = impl.ConvertArray(a, to, true)
		want := strings.Repeat("\x07", k) + "\xff" + strings.Repeat("\x07", 11-k)
		checkArray(t, "ConvertArray of "+impl.HexText(data), converted, code, arrayIn(to, a.Dims, want), a, to)
	}
}

func TestP9DrawnConversions(t *testing.T) {
	m := newTypeMaker(58)
	codes := map[int64]int{}
	for range 600 {
		a := m.drawArray()
		to := m.drawRelated(a.Type)
		elements := elementsIn(a)
		for _, clamp := range []bool{false, true} {
			fails := false
			want := arrayFrom(to, a.Dims, func(at []int64) string {
				b, ok := convertElementOf(a.Type, to, elements[numbersText(at)], clamp)
				fails = fails || !ok
				return b
			})
			converted, code := impl.ConvertArray(a, to, clamp)
			codes[code]++
			if fails {
				checkNoArray(t, "ConvertArray", converted, code, impl.ErrConvert)
				continue
			}
			checkArray(t, "ConvertArray", converted, code, want, a, to)
		}
		other := m.draw(3, 24)
		converted, code := impl.ConvertArray(a, other, true)
		if !impl.Convertible(a.Type, other) {
			codes[code]++
			checkNoArray(t, "ConvertArray to another kind", converted, code, impl.ErrType)
		}
	}
	if codes[impl.OK] < 600 || codes[impl.ErrConvert] < 100 || codes[impl.ErrType] < 100 {
		t.Errorf("too few of a code: %v", codes)
	}
}

func arrayResults(a, b impl.Array, x impl.Selection, list []int64, s string) []any {
	fresh, freshCode := impl.NewArray(a.Type, list, s)
	element, elementCode := impl.ElementAt(a, list)
	gathered, gatherCode := impl.Gather(a, x)
	scattered, scatterCode := impl.Scatter(a, x, s)
	filled, fillCode := impl.FillSelected(a, x, s)
	resized, resizeCode := impl.ResizeArray(a, list, s)
	transposed, transposeCode := impl.TransposeArray(a, list)
	reshaped, reshapeCode := impl.ReshapeArray(a, list)
	converted, convertCode := impl.ConvertArray(a, b.Type, len(s)%2 == 0)
	return []any{impl.ValidArray(a), impl.SameArray(a, b), fresh, freshCode, element, elementCode, gathered, gatherCode, scattered, scatterCode, filled, fillCode,
		resized, resizeCode, transposed, transposeCode, reshaped, reshapeCode, converted, convertCode}
}

func TestP1ArraysReturnForAllArguments(t *testing.T) {
	lists, texts, selections := oddLists(), oddStrings(), illFormed()
	types := append(oddTypes(), textType(1), intType(2, true, true), refType(), arrayType(2, textType(2)))
	slices.Reverse(types)
	for i, of := range types {
		list, s := lists[i%len(lists)], texts[i%len(texts)]
		a, b := arrayIn(of, lists[i/3%len(lists)], texts[i/5%len(texts)]), arrayIn(types[len(types)-1-i], list, s)
		x := selections[i%len(selections)]
		check(t, "second call", shown(arrayResults(roomyArray(a), roomyArray(b), roomySelection(x), roomyList(list), s)...), shown(arrayResults(a, b, x, list, s)...))
		for _, x := range []impl.Selection{selectAll, selectNone, x} {
			arrayResults(letters(), a, x, list, s)
		}
	}
}

func TestP1ArraysThatContainThemselves(t *testing.T) {
	withSmallStack(func() {
		for _, of := range []impl.Type{selfContaining(1, 1), selfContaining(3, 4), selfContainingCompound(), selfContainingEnum()} {
			checkInvalidArray(t, arrayIn(of, nil, "a"))
			converted, code := impl.ConvertArray(letters(), of, true)
			checkNoArray(t, "ConvertArray to a type that contains itself", converted, code, impl.ErrInvalid)
		}
	})
}

func TestP1ArraysAreNotModified(t *testing.T) {
	m := newTypeMaker(59)
	for range 600 {
		a, b := roomyArray(m.drawArray()), impl.Array{}
		b.Type = roomy(m.drawRelated(a.Type))
		b.Dims = roomyList(a.Dims)
		x := roomySelection(m.drawSelection(a.Dims))
		s, _ := m.drawElement(a.Type)
		list := roomyList([][]int64{a.Dims, make([]int64, len(a.Dims)), permutations(int64(len(a.Dims)))[0]}[m.IntN(3)])
		if m.IntN(2) == 0 {
			s, _ = impl.Gather(a, x)
		}
		before := shown(wideArray(a), wideArray(b), wideSelection(x), wideList(list))
		results := arrayResults(a, b, x, list, s)
		checkNew(t, "results", []any{a, b, x, list}, results...)
		first := shown(results...)
		second := shown(arrayResults(a, b, x, list, s)...)
		checkShown(t, "arguments after the calls", shown(wideArray(a), wideArray(b), wideSelection(x), wideList(list)), before)
		checkShown(t, "second call", second, first)
	}
}
