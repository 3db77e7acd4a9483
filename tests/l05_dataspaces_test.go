package tests

import (
	"math"
	"slices"
	"strings"
	"testing"

	"loop.example/g00904/impl"
)

func TestP6Constants(t *testing.T) {
	check(t, "limits", []int64{impl.MaxRank, impl.MaxDim, impl.MaxElements, impl.Unlimited}, []int64{3, 40, 600, -1})
}

// elementsOf returns what impl.ElementsOf should return.
func elementsOf(dims []int64) int64 {
	if !isDims(dims) {
		return -1
	}
	return int64(len(rowMajor(dims)))
}

func TestP6EveryDimensions(t *testing.T) {
	numbers := numbersFrom(-1, 41)
	for rank := range 4 {
		for _, dims := range everyDims(rank, numbers) {
			if impl.ValidDims(dims) != isDims(dims) {
				t.Fatalf("ValidDims of %v", dims)
			}
			if rank < 3 && impl.ElementsOf(dims) != elementsOf(dims) {
				t.Fatalf("ElementsOf %v: got %d", dims, impl.ElementsOf(dims))
			}
		}
	}
}

// writtenDims are dimensions with their number of elements, -1 if they are invalid.
var writtenDims = []struct {
	dims     []int64
	elements int64
}{
	{nil, 1}, {[]int64{}, 1}, {[]int64{0}, 0}, {[]int64{1}, 1}, {[]int64{40}, 40}, {[]int64{41}, -1}, {[]int64{-1}, -1}, {[]int64{600}, -1},
	{[]int64{25, 24}, 600}, {[]int64{24, 25}, 600}, {[]int64{25, 25}, -1}, {[]int64{40, 15}, 600}, {[]int64{15, 40}, 600}, {[]int64{40, 16}, -1}, {[]int64{16, 40}, -1},
	{[]int64{40, 0}, 0}, {[]int64{0, 7}, 0}, {[]int64{41, 0}, -1}, {[]int64{0, 41}, -1}, {[]int64{-1, 0}, -1}, {[]int64{0, -1}, -1}, {[]int64{-1, -1}, -1},
	{[]int64{0, 40, 40}, 0}, {[]int64{40, 0, 40}, 0}, {[]int64{40, 40, 0}, 0}, {[]int64{0, 0, 0}, 0}, {[]int64{2, 3, 4}, 24}, {[]int64{8, 15, 5}, 600}, {[]int64{1, 40, 15}, 600},
	{[]int64{40, 1, 15}, 600}, {[]int64{40, 15, 1}, 600}, {[]int64{40, 15, 2}, -1}, {[]int64{1, 1, 601}, -1}, {[]int64{40, 40, 40}, -1}, {[]int64{9, 9, 8}, -1}, {[]int64{-2, -3, 4}, -1},
	{[]int64{1, 1, 1, 1}, -1}, {[]int64{0, 0, 0, 0}, -1}, {make([]int64, 1000), -1},
	{[]int64{1 << 32, 1 << 32}, -1}, {[]int64{math.MinInt64, 2}, -1}, {[]int64{math.MinInt64}, -1}, {[]int64{math.MaxInt64}, -1}, {[]int64{0, math.MaxInt64}, -1}, {[]int64{0, 0, math.MinInt64}, -1},
}

func TestP6WrittenDimensions(t *testing.T) {
	for _, c := range writtenDims {
		what := shown(c.dims)
		check(t, "ValidDims of "+what, impl.ValidDims(c.dims), c.elements >= 0)
		check(t, "ElementsOf "+what, impl.ElementsOf(c.dims), c.elements)
		origin := make([]int64, len(c.dims))
		if c.elements < 1 {
			check(t, "IndexOf in "+what, impl.IndexOf(c.dims, origin), int64(-1))
			check(t, "CoordsOf in "+what, len(impl.CoordsOf(c.dims, 0)), 0)
			continue
		}
		check(t, "IndexOf in "+what, impl.IndexOf(c.dims, origin), int64(0))
		checkShown(t, "CoordsOf in "+what, shown(impl.CoordsOf(c.dims, 0)), shown(origin))
	}
}

// checkElements checks that coordinates and indices correspond one to one.
func checkElements(t *testing.T, dims []int64) {
	t.Helper()
	elements := rowMajor(dims)
	for index, at := range elements {
		if got := impl.IndexOf(dims, at); got != int64(index) {
			t.Fatalf("IndexOf %v in %v: got %d, want %d", at, dims, got, index)
		}
		if got := impl.CoordsOf(dims, int64(index)); !slices.Equal(got, at) {
			t.Fatalf("CoordsOf %d in %v: got %v, want %v", index, dims, got, at)
		}
	}
	end := int64(len(elements))
	for _, index := range []int64{math.MinInt64, -end, -1, end, end + 1, 600, math.MaxInt64} {
		if got := impl.CoordsOf(dims, index); len(got) != 0 && (index < 0 || index >= end) {
			t.Fatalf("CoordsOf %d in %v: got %v", index, dims, got)
		}
	}
	if got := impl.ElementsOf(dims); got != end {
		t.Fatalf("ElementsOf %v: got %d, want %d", dims, got, end)
	}
}

func TestP6IndicesAndCoordinatesCorrespond(t *testing.T) {
	list := slices.Concat(everyDims(0, nil), everyDims(1, numbersFrom(0, 40)), everyDims(2, numbersFrom(0, 40)), everyDims(3, []int64{0, 1, 2, 3, 5, 7, 15, 24, 40}))
	for _, dims := range list {
		if isDims(dims) {
			checkElements(t, dims)
		}
	}
}

func TestP6CoordinatesOutside(t *testing.T) {
	for _, dims := range [][]int64{{5}, {1}, {4, 3}, {40, 15}, {2, 3, 4}, {1, 1, 1}, {0}, {3, 0}, {0, 2, 2}} {
		last := make([]int64, len(dims))
		for i, n := range dims {
			last[i] = max(0, n-1)
		}
		check(t, "all coordinates and one more", impl.IndexOf(dims, append(slices.Clone(last), 0)), int64(-1))
		check(t, "all coordinates but one", impl.IndexOf(dims, last[1:]), int64(-1))
		check(t, "no coordinates", impl.IndexOf(dims, nil), int64(-1))
		for i, n := range dims {
			for _, c := range []int64{math.MinInt64, -n - 1, -1, n, n + 1, 40, math.MaxInt64} {
				at := slices.Clone(last)
				at[i] = c
				if c < 0 || c >= n {
					check(t, "IndexOf "+shown(at)+" in "+shown(dims), impl.IndexOf(dims, at), int64(-1))
				}
			}
		}
	}
	for _, at := range [][]int64{{0}, {-1}, {0, 0}, {0, 0, 0, 0}} {
		check(t, "IndexOf in rank 0", impl.IndexOf(nil, at), int64(-1))
	}
	check(t, "IndexOf in rank 0", impl.IndexOf(nil, nil), int64(0))
	check(t, "example", impl.IndexOf([]int64{2, 3, 4}, []int64{1, 0, 2}), int64(14))
}

func checkForm(t *testing.T, x impl.Space, text, binary string) {
	t.Helper()
	check(t, "ValidSpace of "+text, impl.ValidSpace(x), true)
	check(t, "SpaceText of "+text, impl.SpaceText(x), text)
	check(t, "EncodeSpace of "+text, impl.EncodeSpace(x), binary)
	read, ok := impl.ReadSpace(text)
	checkShown(t, "ReadSpace of "+text, shown(read, ok), shown(x, true))
	decoded, ok := impl.DecodeSpace(binary)
	checkShown(t, "DecodeSpace of "+text, shown(decoded, ok), shown(x, true))
}

func TestP6WrittenForms(t *testing.T) {
	for _, c := range []struct {
		text, binary string
		dims, most   []int64
	}{
		{"()", "\x00", nil, nil},
		{"(4)", "\x01\x04\x04", []int64{4}, []int64{4}},
		{"(0)", "\x01\x00\x00", []int64{0}, []int64{0}},
		{"(0/*)", "\x01\x00\xff", []int64{0}, []int64{-1}},
		{"(0/40)", "\x01\x00\x28", []int64{0}, []int64{40}},
		{"(40)", "\x01\x28\x28", []int64{40}, []int64{40}},
		{"(40/*)", "\x01\x28\xff", []int64{40}, []int64{-1}},
		{"(39/40)", "\x01\x27\x28", []int64{39}, []int64{40}},
		{"(4,3/10,2/*)", "\x03\x04\x04\x03\x0a\x02\xff", []int64{4, 3, 2}, []int64{4, 10, -1}},
		{"(25/40,24/40)", "\x02\x19\x28\x18\x28", []int64{25, 24}, []int64{40, 40}},
		{"(0/*,40/*,40/*)", "\x03\x00\xff\x28\xff\x28\xff", []int64{0, 40, 40}, []int64{-1, -1, -1}},
		{"(1,1,1)", "\x03\x01\x01\x01\x01\x01\x01", []int64{1, 1, 1}, []int64{1, 1, 1}},
		{"(8,15/16,5/*)", "\x03\x08\x08\x0f\x10\x05\xff", []int64{8, 15, 5}, []int64{8, 16, -1}},
	} {
		checkForm(t, space(c.dims, c.most), c.text, c.binary)
	}
}

func checkInvalidSpace(t *testing.T, x impl.Space) {
	t.Helper()
	what := shown(x)
	check(t, "ValidSpace of "+what, impl.ValidSpace(x), false)
	check(t, "SpaceText of "+what, impl.SpaceText(x), "")
	check(t, "EncodeSpace of "+what, impl.EncodeSpace(x), "")
	for _, dims := range [][]int64{x.Dims, {}, {1}, {1, 1}, {41}} {
		resized, code := impl.ResizeSpace(x, dims)
		check(t, "ResizeSpace of "+what, []any{resized, code}, []any{impl.Space{}, int64(impl.ErrInvalid)})
	}
}

func TestP6EverySpaceOfRankOne(t *testing.T) {
	for n := int64(-1); n <= 41; n++ {
		for most := int64(-3); most <= 42; most++ {
			x := space([]int64{n}, []int64{most})
			if isSpace(x) {
				text, binary := formsOfSpace(x)
				checkForm(t, x, text, binary)
			} else {
				checkInvalidSpace(t, x)
			}
		}
	}
}

func TestP6DrawnSpaces(t *testing.T) {
	m := newTypeMaker(21)
	for range 4000 {
		x := m.drawSpace()
		text, binary := formsOfSpace(x)
		checkForm(t, x, text, binary)
		// One wrong Max makes it invalid, wherever it is.
		for i, n := range x.Dims {
			wrong := space(x.Dims, slices.Clone(x.Max))
			wrong.Max[i] = []int64{-2, 41, math.MinInt64, math.MaxInt64, 255}[m.IntN(5)]
			if n > 0 && m.IntN(2) == 0 {
				wrong.Max[i] = n - 1
			}
			checkInvalidSpace(t, wrong)
		}
	}
}

func TestP6InvalidSpaces(t *testing.T) {
	for _, c := range writtenDims {
		if c.elements < 0 {
			checkInvalidSpace(t, space(c.dims, c.dims))
			checkInvalidSpace(t, space(c.dims, slices.Repeat([]int64{-1}, len(c.dims))))
		}
	}
	for _, x := range []impl.Space{
		{Dims: nil, Max: []int64{0}}, {Dims: nil, Max: []int64{-1}}, {Dims: []int64{1}, Max: nil}, {Dims: []int64{1}, Max: []int64{1, 1}}, {Dims: []int64{1, 1}, Max: []int64{1}},
		{Dims: []int64{1, 1, 1}, Max: []int64{1, 1, 1, 1}}, {Dims: []int64{1, 1, 1, 1}, Max: []int64{1, 1, 1}}, {Dims: []int64{1}, Max: make([]int64, 1000)},
		{Dims: []int64{4}, Max: []int64{3}}, {Dims: []int64{4}, Max: []int64{0}}, {Dims: []int64{4}, Max: []int64{-2}}, {Dims: []int64{4}, Max: []int64{41}},
		{Dims: []int64{4, 4}, Max: []int64{4, 3}}, {Dims: []int64{4, 4, 4}, Max: []int64{-1, -1, 3}}, {Dims: []int64{0}, Max: []int64{math.MinInt64}}, {Dims: []int64{0}, Max: []int64{math.MaxInt64}},
	} {
		checkInvalidSpace(t, x)
	}
}

func TestP6TextsThatAreNoForms(t *testing.T) {
	for _, s := range []string{
		"", "(", ")", "4", "(4", "4)", ")4(", "[4]", "((4))", "()()", "(4)(3)", "(4)3", " (4)", "(4) ", "( 4)", "(4 )", "(4\n)", "(4)\x00", "\x00",
		"(,)", "(4,)", "(,4)", "(4,,3)", "(4;3)", "(4 3)", "(04)", "(00)", "(+4)", "(-0)", "(-1)", "(4.0)", "(0x4)", "(4_0)", "(x)", "(*)", "(\u0664)",
		"(4/4)", "(0/0)", "(40/40)", "(4/04)", "(4/+5)", "(4/-1)", "(4/-2)", "(4/3)", "(4/41)", "(4/255)", "(4/)", "(/4)", "(/)", "(/*)", "(4/**)", "(4/*5)", "(4*)", "(4/5/6)", "(4//5)", "(4/*/*)", "(3/* )", "(3/ *)",
		"(41)", "(41/*)", "(25,25)", "(25,25/*)", "(1,1,1,1)", "(0,0,0,0)", "(9223372036854775807)", "(9223372036854775808)", "(-9223372036854775808)", "(99999999999999999999)", "(1/18446744073709551615)", "(1/99999999999999999999)",
	} {
		x, ok := impl.ReadSpace(s)
		checkShown(t, "ReadSpace("+s+")", shown(x, ok), shown(impl.Space{}, false))
	}
}

func TestP6BytesThatAreNoForms(t *testing.T) {
	for _, s := range []string{
		"", "\x01", "\x02", "\x03", "\xff", "\x00\x00", "\x00\x01", "\x00\x01\x01", "\x01\x04", "\x01\x04\x04\x00", "\x01\x04\x04\x00\x00", "\x02\x04\x04", "\x03\x04\x04\x04\x04",
		"\x01\x05\x04", "\x01\x05\x29", "\x01\x05\xfe", "\x01\x05\x80", "\x01\x05\x7f", "\x01\x29\x29", "\x01\x29\xff", "\x01\xff\xff", "\x01\x80\x80", "\x02\x19\x19\x19\x19", "\x04\x01\x01\x01\x01\x01\x01\x01\x01",
	} {
		x, ok := impl.DecodeSpace(s)
		checkShown(t, "DecodeSpace", shown(x, ok), shown(impl.Space{}, false))
	}
}

// Of all short strings, exactly the binary forms are decoded.
func TestP6AllShortBinaryForms(t *testing.T) {
	found := map[int]int{}
	look := func(b ...byte) {
		s := string(b)
		x, ok := impl.DecodeSpace(s)
		if ok && impl.EncodeSpace(x) == s && isSpace(x) {
			found[len(s)]++
		} else if ok || len(x.Dims)+len(x.Max) > 0 {
			t.Errorf("DecodeSpace of %q: got %+v", s, x)
		}
	}
	for a := range 256 {
		look(byte(a))
		for b := range 256 {
			look(byte(a), byte(b))
			for c := 0; c < 256 && a < 4; c++ {
				look(byte(a), byte(b), byte(c))
			}
		}
	}
	// A dimension n has 41 - n numbers as its Max, and Unlimited.
	check(t, "forms by length", found, map[int]int{1: 1, 3: 41*42/2 + 41})
}

func TestP6EditedForms(t *testing.T) {
	m := newTypeMaker(22)
	for range 300 {
		text, binary := formsOfSpace(m.drawSpace())
		edits(text, "(),/*-+ 01459\x00", func(s string) {
			if x, ok := impl.ReadSpace(s); ok && (impl.SpaceText(x) != s || !isSpace(x)) || !ok && len(x.Dims)+len(x.Max) > 0 {
				t.Errorf("ReadSpace(%q): got %+v, %v", s, x, ok)
			}
		})
		edits(binary, "\x00\x01\x02\x03\x04\x19\x28\x29\xfe\xff", func(s string) {
			if x, ok := impl.DecodeSpace(s); ok && (impl.EncodeSpace(x) != s || !isSpace(x)) || !ok && len(x.Dims)+len(x.Max) > 0 {
				t.Errorf("DecodeSpace(%q): got %+v, %v", s, x, ok)
			}
		})
	}
}

func checkResize(t *testing.T, x impl.Space, dims []int64, want int64) {
	t.Helper()
	resized, code := impl.ResizeSpace(x, dims)
	if want != impl.OK {
		checkShown(t, "ResizeSpace of "+shown(x)+" to "+shown(dims), shown(resized, code), shown(impl.Space{}, want))
		return
	}
	checkShown(t, "ResizeSpace of "+shown(x)+" to "+shown(dims), shown(resized, code), shown(space(dims, x.Max), want))
	check(t, "ValidSpace of "+shown(resized), impl.ValidSpace(resized), true)
	back, code := impl.ResizeSpace(resized, x.Dims)
	checkShown(t, "ResizeSpace back", shown(back, code), shown(x, int64(impl.OK)))
}

func TestP6EveryResizeOfRankOne(t *testing.T) {
	for n := range int64(41) {
		for _, most := range append(numbersFrom(n, 40), -1) {
			for fresh := int64(-1); fresh <= 41; fresh++ {
				code := int64(impl.OK)
				if fresh < 0 || fresh > 40 {
					code = impl.ErrInvalid
				} else if most != -1 && fresh > most {
					code = impl.ErrRange
				}
				checkResize(t, space([]int64{n}, []int64{most}), []int64{fresh}, code)
			}
		}
	}
}

func TestP6WrittenResizes(t *testing.T) {
	three := space([]int64{4, 3, 2}, []int64{4, 10, -1})
	for _, c := range []struct {
		x    impl.Space
		dims []int64
		code int64
	}{
		{three, []int64{4, 10, 15}, impl.OK}, {three, []int64{4, 3, 2}, impl.OK}, {three, []int64{0, 0, 0}, impl.OK}, {three, []int64{0, 0, 40}, impl.OK}, {three, []int64{1, 1, 40}, impl.OK},
		{three, []int64{5, 3, 2}, impl.ErrRange}, {three, []int64{4, 11, 2}, impl.ErrRange}, {three, []int64{5, 0, 40}, impl.ErrRange},
		{three, []int64{4, 3}, impl.ErrRange}, {three, []int64{4}, impl.ErrRange}, {three, nil, impl.ErrRange},
		{three, []int64{4, 10, 16}, impl.ErrInvalid}, {three, []int64{4, 3, 41}, impl.ErrInvalid}, {three, []int64{4, 3, 2, 1}, impl.ErrInvalid}, {three, []int64{5, 11, 41}, impl.ErrInvalid}, {three, []int64{-1, 3, 2}, impl.ErrInvalid},
		{impl.Space{}, nil, impl.OK}, {impl.Space{}, []int64{1}, impl.ErrRange}, {impl.Space{}, []int64{0, 0, 0}, impl.ErrRange}, {impl.Space{}, []int64{41}, impl.ErrInvalid},
		{space([]int64{1}, []int64{-1}), []int64{1, 1}, impl.ErrRange}, {space([]int64{1}, []int64{-1}), nil, impl.ErrRange}, {space([]int64{1}, []int64{-1}), []int64{math.MaxInt64}, impl.ErrInvalid},
		{space([]int64{5}, []int64{4}), []int64{4}, impl.ErrInvalid}, {space([]int64{5}, []int64{4}), []int64{5}, impl.ErrInvalid}, {space([]int64{5}, []int64{4}), []int64{4, 4}, impl.ErrInvalid},
		{space([]int64{41}, []int64{-1}), []int64{4}, impl.ErrInvalid}, {space([]int64{4}, nil), []int64{4}, impl.ErrInvalid}, {space(nil, []int64{4}), nil, impl.ErrInvalid},
	} {
		checkResize(t, c.x, c.dims, c.code)
	}
}

func TestP6DrawnResizes(t *testing.T) {
	m := newTypeMaker(23)
	codes := map[int64]int{}
	for range 6000 {
		x, dims := m.drawSpace(), m.drawDims()
		code := int64(impl.OK)
		for i, n := range dims {
			if len(x.Max) != len(dims) || x.Max[i] != -1 && n > x.Max[i] {
				code = impl.ErrRange
			}
		}
		if len(x.Max) != len(dims) {
			code = impl.ErrRange
		}
		codes[code]++
		checkResize(t, x, dims, code)
	}
	if codes[impl.OK] < 100 || codes[impl.ErrRange] < 100 {
		t.Errorf("too few of a kind: %v", codes)
	}
}

func TestP6SameSpaces(t *testing.T) {
	lists := [][]int64{nil, {0}, {1}, {-7}, {1, 0}, {1, 2}, {2, 1}, {1, 2, 3, 4, 5}, {1, 2, 3, 4, 6}}
	for i, a := range lists {
		for j, b := range lists {
			for k, c := range lists {
				check(t, "same Max", impl.SameSpace(space(a, c), roomySpace(space(b, c))), i == j)
				check(t, "same Dims", impl.SameSpace(space(c, a), roomySpace(space(c, b))), i == j)
				check(t, "exchanged", impl.SameSpace(space(a, c), space(c, a)), i == k)
			}
		}
	}
	check(t, "empty and nil", impl.SameSpace(impl.Space{}, space([]int64{}, []int64{})), true)
}

func spaceResults(x, y impl.Space, at []int64, n int64, s string) []any {
	resized, code := impl.ResizeSpace(x, y.Dims)
	decoded, isDecoded := impl.DecodeSpace(s)
	read, isRead := impl.ReadSpace(s)
	return []any{impl.ValidDims(x.Dims), impl.ValidSpace(x), impl.SameSpace(x, y), impl.ElementsOf(x.Dims), impl.IndexOf(x.Dims, at), impl.CoordsOf(x.Dims, n),
		resized, code, impl.EncodeSpace(x), decoded, isDecoded, impl.SpaceText(x), read, isRead}
}

// oddLists are lists of up to four odd numbers.
func oddLists() [][]int64 {
	list := [][]int64{nil, {}, make([]int64, 1000), slices.Repeat([]int64{1}, 100000)}
	numbers := oddNumbers()
	for i, n := range numbers {
		other := numbers[len(numbers)-1-i]
		list = append(list, []int64{n}, []int64{n, other}, []int64{0, n}, []int64{n, 0, other}, []int64{1, 1, n}, []int64{n, n, n, n})
	}
	return list
}

func TestP1SpacesReturnForAllArguments(t *testing.T) {
	lists, texts, numbers := oddLists(), oddStrings(), oddNumbers()
	for i, a := range lists {
		for _, j := range []int{0, i, len(lists) - 1 - i} {
			x, y, n, s := space(a, lists[j]), space(lists[j], a), numbers[i%len(numbers)], texts[i%len(texts)]
			checkShown(t, "second call", shown(spaceResults(roomySpace(x), roomySpace(y), a, n, s)...), shown(spaceResults(x, y, a, n, s)...))
		}
	}
	for _, s := range texts {
		checkShown(t, "second call", shown(spaceResults(impl.Space{}, impl.Space{}, nil, 0, s)...), shown(spaceResults(impl.Space{}, impl.Space{}, nil, 0, s)...))
	}
}

func TestP1SpacesAreNotModified(t *testing.T) {
	m := newTypeMaker(24)
	for range 3000 {
		x, y := roomySpace(m.drawSpace()), roomySpace(m.drawSpace())
		y.Dims = roomyList(x.Dims)
		at := roomyList(make([]int64, len(x.Dims)))
		before := shown(wideSpace(x), wideSpace(y), wideList(at))
		first := shown(spaceResults(x, y, at, 0, impl.SpaceText(x))...)
		second := shown(spaceResults(x, y, at, 0, impl.SpaceText(x))...)
		checkShown(t, "arguments after the calls", shown(wideSpace(x), wideSpace(y), wideList(at)), before)
		checkShown(t, "second call", second, first)
		resized, code := impl.ResizeSpace(x, y.Dims)
		check(t, "ResizeSpace to the same", code, int64(impl.OK))
		decoded, _ := impl.DecodeSpace(impl.EncodeSpace(x))
		read, _ := impl.ReadSpace(impl.SpaceText(x))
		checkApart(t, impl.SpaceText(x), x, y, at, resized, decoded, read, impl.CoordsOf(x.Dims, 0))
	}
}

func TestP1LongSpaces(t *testing.T) {
	const many = 300000
	for _, s := range []string{
		"(" + strings.Repeat("1,", many) + "1)", strings.Repeat("(", many), strings.Repeat(",", many), "(1/" + strings.Repeat("*", many) + ")", "(" + strings.Repeat("9", many) + ")",
		"(" + strings.Repeat("0", many) + "1)", "(1" + strings.Repeat("/1", many) + ")", strings.Repeat("\x01", many+1), strings.Repeat("\xff", many+1), "\x00" + strings.Repeat("\x01\x01", many),
	} {
		x, ok := impl.ReadSpace(s)
		checkShown(t, "ReadSpace of a long string", shown(x, ok), shown(impl.Space{}, false))
		x, ok = impl.DecodeSpace(s)
		checkShown(t, "DecodeSpace of a long string", shown(x, ok), shown(impl.Space{}, false))
	}
}
