package tests

import (
	"math"
	"slices"
	"strings"
	"testing"

	"loop.example/g00904/impl"
)

func TestP8Constants(t *testing.T) {
	check(t, "limit", impl.MaxBoxes, 32)
}

// oddBoxes are boxes that are not valid.
func oddBoxes() []impl.Box {
	list := []impl.Box{
		boxOf(nil, []int64{1}), boxOf([]int64{0}, nil), boxOf([]int64{0}, []int64{1, 1}), boxOf([]int64{0, 0}, []int64{1}), boxOf([]int64{0, 0, 0}, []int64{1, 1, 1, 1}),
		boxOf([]int64{0, 0, 0, 0}, []int64{1, 1, 1, 1}), boxOf(make([]int64, 1000), slices.Repeat([]int64{1}, 1000)), boxOf(make([]int64, 1000), nil),
	}
	for rank := 1; rank <= 3; rank++ {
		for i := range rank {
			for _, limits := range [][2]int64{{2, 2}, {0, 0}, {3, 2}, {40, 40}, {40, 41}, {39, 41}, {0, 41}, {-1, 1}, {-1, 0}, {40, 0}, {math.MinInt64, math.MaxInt64}, {0, math.MaxInt64}, {math.MinInt64, 1}, {1, math.MinInt64}, {math.MaxInt64, math.MinInt64}} {
				b := boxOf(make([]int64, rank), slices.Repeat([]int64{40}, rank))
				b.Low[i], b.High[i] = limits[0], limits[1]
				list = append(list, b)
			}
		}
	}
	return list
}

func checkBox(t *testing.T, b impl.Box, size int64) {
	t.Helper()
	what := shown(b)
	valid := size > 0
	check(t, "ValidBox of "+what, impl.ValidBox(b), valid)
	check(t, "BoxSize of "+what, impl.BoxSize(b), size)
	cut, ok := impl.CutBox(b, b)
	bounds, isBounded := impl.BoundsOf([]impl.Box{b})
	form, code := impl.NormalBoxes([]impl.Box{b})
	if !valid {
		checkShown(t, "CutBox of "+what, shown(cut, ok), shown(impl.Box{}, false))
		checkShown(t, "BoundsOf "+what, shown(bounds, isBounded), shown(impl.Box{}, false))
		checkShown(t, "NormalBoxes of "+what, shown(form, code), shown([]impl.Box{}, impl.ErrInvalid))
		check(t, "InBoxes of "+what, impl.InBoxes([]impl.Box{b}, b.Low), false)
		return
	}
	checkShown(t, "CutBox of "+what, shown(cut, ok), shown(b, true))
	checkShown(t, "BoundsOf "+what, shown(bounds, isBounded), shown(b, true))
	checkShown(t, "NormalBoxes of "+what, shown(form, code), shown([]impl.Box{b}, impl.OK))
	check(t, "InBoxes of "+what, impl.InBoxes([]impl.Box{b}, b.Low), true)
	checkNew(t, what, []any{b}, cut, bounds, form)
}

func TestP8EveryBoxOfRankOne(t *testing.T) {
	for low := int64(-2); low <= 42; low++ {
		for high := int64(-2); high <= 42; high++ {
			size := high - low
			if low < 0 || high > 40 || size < 0 {
				size = 0
			}
			checkBox(t, boxOf([]int64{low}, []int64{high}), size)
		}
	}
}

func TestP8BoxesAtTheirLimits(t *testing.T) {
	for _, b := range oddBoxes() {
		checkBox(t, b, 0)
	}
	for _, c := range []struct {
		text string
		size int64
	}{
		{".", 1}, {"0:1", 1}, {"39:40", 1}, {"0:40", 40}, {"0:2,1:4", 6}, {"0:40,0:40", 1600}, {"39:40,39:40", 1}, {"1:3,2:5,3:7", 24}, {"0:40,0:40,0:40", 64000}, {"39:40,39:40,39:40", 1}, {"0:40,1:2,0:1", 40},
	} {
		checkBox(t, boxesIn(c.text)[0], c.size)
	}
}

func TestP8SameBoxes(t *testing.T) {
	base := append(boxesIn("0:3,1:2 . 5:2,7:9,-1:90,0:0,0:0"), boxOf([]int64{1}, nil), boxOf([]int64{0, 0}, []int64{1, 2, 3}))
	check(t, "same", impl.SameBoxes(base, roomyBoxes(base)), true)
	for i, change := range []func(x []impl.Box) []impl.Box{
		func(x []impl.Box) []impl.Box { x[0].Low[1] = 0; return x }, func(x []impl.Box) []impl.Box { x[0].High[0] = 4; return x }, func(x []impl.Box) []impl.Box { x[0].Low = x[0].Low[:1]; return x }, func(x []impl.Box) []impl.Box { x[0].High = nil; return x },
		func(x []impl.Box) []impl.Box { x[1].Low = []int64{0}; return x }, func(x []impl.Box) []impl.Box { x[1].High = []int64{0}; return x }, func(x []impl.Box) []impl.Box { x[2].High[4] = 1; return x }, func(x []impl.Box) []impl.Box { x[4].Low, x[4].High = x[4].High, x[4].Low; return x },
		func(x []impl.Box) []impl.Box { return x[:4] }, func(x []impl.Box) []impl.Box { return x[1:] }, func(x []impl.Box) []impl.Box { return nil }, func(x []impl.Box) []impl.Box { return append(x, impl.Box{}) }, func(x []impl.Box) []impl.Box { x[0], x[3] = x[3], x[0]; return x },
	} {
		x := change(roomyBoxes(base))
		check(t, "change to "+shown(x), []any{i, impl.SameBoxes(base, x), impl.SameBoxes(x, base), impl.SameBoxes(x, x)}, []any{i, false, false, true})
	}
	check(t, "no boxes", impl.SameBoxes(nil, []impl.Box{}), true)
	check(t, "no box and one of rank 0", impl.SameBoxes(nil, []impl.Box{{}}), false)
	check(t, "nil and empty", impl.SameBoxes([]impl.Box{{}}, []impl.Box{boxOf([]int64{}, []int64{})}), true)
}

func checkCut(t *testing.T, a, b impl.Box) bool {
	t.Helper()
	want, code := combinedBoxes([]impl.Box{a}, []impl.Box{b}, inIntersection)
	cut, ok := impl.CutBox(a, b)
	if code != impl.OK || len(want) == 0 {
		checkShown(t, "CutBox of "+shown(a, b), shown(cut, ok), shown(impl.Box{}, false))
		return false
	}
	checkShown(t, "CutBox of "+shown(a, b), shown(cut, ok), shown(want[0], true))
	checkNew(t, "CutBox", []any{a, b}, cut)
	return true
}

func TestP8CutBoxes(t *testing.T) {
	var all []impl.Box
	for low := range int64(7) {
		for high := low + 1; high <= 7; high++ {
			all = append(all, boxOf([]int64{low}, []int64{high}))
		}
	}
	for _, a := range all {
		for _, b := range all {
			checkCut(t, a, b)
		}
	}
	for _, c := range [][3]string{
		{".", ".", "."}, {"0:4", "2:6", "2:4"}, {"2:6", "0:4", "2:4"}, {"0:40", "39:40", "39:40"}, {"0:4", "4:6", ""}, {"4:6", "0:4", ""}, {"0:4", "5:6", ""}, {"0:9", "3:4", "3:4"}, {".", "0:4", ""}, {"0:4", ".", ""}, {"0:4", "0:4,0:4", ""},
		{"0:3,0:3", "1:5,2:5", "1:3,2:3"}, {"0:3,0:3", "1:5,3:5", ""}, {"0:3,0:3", "3:5,0:3", ""}, {"0:3,0:3", "1:2,1:2", "1:2,1:2"}, {"0:3,1:2,0:40", "1:9,0:9,39:40", "1:3,1:2,39:40"}, {"0:3,1:2,0:4", "1:9,0:9,4:5", ""}, {"0:3,1:2,0:4", "1:9,2:9,0:4", ""},
	} {
		cut, ok := impl.CutBox(boxesIn(c[0])[0], boxesIn(c[1])[0])
		checkShown(t, "CutBox of "+c[0]+" and "+c[1], shown(boxesIn(c[2]), ok), shown(slices.Repeat([]impl.Box{cut}, len(boxesIn(c[2]))), c[2] != ""))
		checkCut(t, boxesIn(c[0])[0], boxesIn(c[1])[0])
	}
	for _, b := range oddBoxes() {
		for _, other := range boxesIn(". 0:40 0:40,0:40 0:40,0:40,0:40") {
			checkCut(t, b, other)
			checkCut(t, other, b)
		}
	}
	m := newTypeMaker(41)
	found := 0
	for range 3000 {
		rank := 1 + m.IntN(2)
		for _, a := range m.drawBoxes(rank, 3) {
			for _, b := range m.drawBoxes(rank, 3) {
				if checkCut(t, a, b) {
					found++
				}
			}
		}
	}
	if found < 300 {
		t.Errorf("only %d intersections", found)
	}
}

// writtenNormals are lists with the normal forms of their sets.
var writtenNormals = [][2]string{
	{"", ""}, {".", "."}, {". . .", "."}, {"0:1", "0:1"}, {"0:40", "0:40"}, {"39:40 0:1", "0:1 39:40"},
	// Of rank 1: boxes that overlap, touch, do not touch, or lie one in another.
	{"0:4 2:6", "0:6"}, {"2:6 0:4", "0:6"}, {"0:4 4:6", "0:6"}, {"4:6 0:4", "0:6"}, {"0:4 5:6", "0:4 5:6"}, {"5:6 0:4", "0:4 5:6"}, {"0:9 3:5", "0:9"}, {"3:5 0:9", "0:9"}, {"3:5 3:5", "3:5"}, {"3:5 3:6", "3:6"}, {"2:6 0:4 9:10 6:7", "0:7 9:10"}, {"0:40 0:1 39:40", "0:40"},
	{"0:1 2:3 4:5 1:2", "0:3 4:5"}, {"0:1 2:3 4:5 1:2 3:4", "0:5"}, {"20:40 0:20", "0:40"},
	// Of rank 2.
	{"0:3,0:3 1:2,1:2", "0:3,0:3"}, {"0:1,0:2 1:2,0:2", "0:2,0:2"}, {"0:2,0:1 0:2,1:2", "0:2,0:2"}, {"0:1,0:1 1:2,1:2", "0:1,0:1 1:2,1:2"}, {"1:2,0:1 0:1,1:2", "0:1,1:2 1:2,0:1"}, {"0:1,0:2 2:3,0:2", "0:1,0:2 2:3,0:2"}, {"0:2,0:1 0:2,2:3", "0:2,0:1 0:2,2:3"},
	{"0:3,1:2 1:2,0:3", "0:1,1:2 1:2,0:3 2:3,1:2"}, {"0:2,0:1 1:2,0:2", "0:1,0:1 1:2,0:2"}, {"0:2,0:2 1:3,1:3", "0:1,0:2 1:2,0:3 2:3,1:3"}, {"0:3,0:1 1:2,2:3", "0:1,0:1 1:2,0:1 1:2,2:3 2:3,0:1"}, {"0:3,2:3 1:2,0:1", "0:1,2:3 1:2,0:1 1:2,2:3 2:3,2:3"},
	{"0:1,0:1 0:1,1:2 1:2,0:1 1:2,1:2", "0:2,0:2"}, {"0:2,0:3 2:4,0:1 2:4,1:3", "0:4,0:3"}, {"0:40,0:40 5:6,5:6", "0:40,0:40"}, {"0:40,39:40 39:40,0:40", "0:39,39:40 39:40,0:40"}, {"0:4,5:6 0:4,1:2", "0:4,1:2 0:4,5:6"},
	// Of rank 3.
	{"0:2,0:2,0:1 0:2,0:2,1:2", "0:2,0:2,0:2"}, {"0:2,0:1,0:2 0:2,1:2,0:2", "0:2,0:2,0:2"}, {"0:1,0:2,0:2 1:2,0:2,0:2", "0:2,0:2,0:2"}, {"0:3,0:3,0:3 1:2,1:2,1:2", "0:3,0:3,0:3"}, {"0:40,0:40,0:40", "0:40,0:40,0:40"},
	{"0:1,0:1,0:1 1:2,1:2,1:2 2:3,2:3,2:3", "0:1,0:1,0:1 1:2,1:2,1:2 2:3,2:3,2:3"}, {"0:1,0:1,0:1 0:1,1:2,0:1 1:2,0:2,0:1", "0:2,0:2,0:1"}, {"0:1,0:2,0:2 1:2,0:1,0:2", "0:1,0:2,0:2 1:2,0:1,0:2"}, {"0:2,0:2,0:2 1:2,1:3,1:2", "0:1,0:2,0:2 1:2,0:2,0:2 1:2,2:3,1:2"},
}

func TestP8WrittenNormalForms(t *testing.T) {
	for _, c := range writtenNormals {
		form, code := impl.NormalBoxes(boxesIn(c[0]))
		check(t, "NormalBoxes of "+c[0], []any{boxesText(form), code}, []any{c[1], int64(impl.OK)})
		checkNormal(t, boxesIn(c[0]))
	}
}

func TestP8WrittenOperations(t *testing.T) {
	for _, c := range []struct{ a, b, union, both, onlyA string }{
		{"", "", "", "", ""}, {".", "", ".", "", "."}, {"", ".", ".", "", ""}, {".", ".", ".", ".", ""}, {". .", ".", ".", ".", ""},
		{"0:4", "", "0:4", "", "0:4"}, {"", "0:4", "0:4", "", ""}, {"4:6 0:4", "", "0:6", "", "0:6"}, {"", "4:6 0:4", "0:6", "", ""}, {"0:4", "0:4", "0:4", "0:4", ""},
		{"0:4", "2:6", "0:6", "2:4", "0:2"}, {"2:6", "0:4", "0:6", "2:4", "4:6"}, {"0:4", "4:6", "0:6", "", "0:4"}, {"0:9", "3:5", "0:9", "3:5", "0:3 5:9"}, {"3:5", "0:9", "0:9", "3:5", ""}, {"0:2 4:6", "1:5", "0:6", "1:2 4:5", "0:1 5:6"}, {"0:40", "0:1 39:40", "0:40", "0:1 39:40", "1:39"},
		{"0:3,0:3", "1:2,1:2", "0:3,0:3", "1:2,1:2", "0:1,0:3 1:2,0:1 1:2,2:3 2:3,0:3"}, {"0:3,1:2", "1:2,0:3", "0:1,1:2 1:2,0:3 2:3,1:2", "1:2,1:2", "0:1,1:2 2:3,1:2"}, {"0:2,0:2", "2:4,0:2", "0:4,0:2", "", "0:2,0:2"}, {"0:2,0:2", "0:2,2:4", "0:2,0:4", "", "0:2,0:2"},
		{"0:2,0:2", "", "0:2,0:2", "", "0:2,0:2"}, {"", "0:1,0:2 1:2,0:2", "0:2,0:2", "", ""}, {"0:4,0:4", "1:2,0:4", "0:4,0:4", "1:2,0:4", "0:1,0:4 2:4,0:4"}, {"0:4,0:4", "0:4,1:2", "0:4,0:4", "0:4,1:2", "0:4,0:1 0:4,2:4"}, {"0:2,0:2", "0:1,0:2 1:2,0:2", "0:2,0:2", "0:2,0:2", ""},
		{"0:2,0:2,0:2", "1:2,1:2,1:2", "0:2,0:2,0:2", "1:2,1:2,1:2", "0:1,0:2,0:2 1:2,0:1,0:2 1:2,1:2,0:1"}, {"0:40,0:40,0:40", "0:40,0:40,20:40", "0:40,0:40,0:40", "0:40,0:40,20:40", "0:40,0:40,0:20"}, {"0:2,0:2,0:2", "0:2,0:2,2:4", "0:2,0:2,0:4", "", "0:2,0:2,0:2"},
	} {
		a, b := boxesIn(c.a), boxesIn(c.b)
		for i, o := range boxOperations() {
			list, code := o.do(a, b)
			check(t, o.name+" of "+c.a+" and "+c.b, []any{boxesText(list), code}, []any{[]string{c.union, c.both, c.onlyA}[i], int64(impl.OK)})
		}
		checkCombined(t, a, b)
	}
}

// subsetOf returns a unit box for each bit of a number, in an array with few elements.
func subsetOf(dims []int64, bits int) []impl.Box {
	var list []impl.Box
	for i, at := range rowMajor(dims) {
		if bits>>i&1 == 1 {
			high := slices.Clone(at)
			for k := range high {
				high[k]++
			}
			list = append(list, boxOf(at, high))
		}
	}
	return list
}

// All sets of a few coordinates, and all pairs of them.
func TestP8EverySmallSet(t *testing.T) {
	for _, dims := range [][]int64{nil, {5}, {2, 2}, {2, 3}} {
		subsets := 1 << len(rowMajor(dims))
		for a := range subsets {
			form, _ := impl.NormalBoxes(subsetOf(dims, a))
			for b := range subsets {
				checkCombined(t, form, subsetOf(dims, b))
			}
		}
	}
	for _, dims := range [][]int64{{9}, {3, 3}, {2, 2, 2}} {
		forms := map[string]bool{}
		subsets := 1 << len(rowMajor(dims))
		for bits := range subsets {
			checkNormal(t, subsetOf(dims, bits))
			form, _ := impl.NormalBoxes(subsetOf(dims, bits))
			forms[boxesText(form)] = true
		}
		check(t, "different normal forms", len(forms), subsets)
	}
}

func TestP8DrawnOperations(t *testing.T) {
	m := newTypeMaker(42)
	full := [4]int{}
	for i := range 2000 {
		rank := i % 4
		most := []int{3, 8, 32}[m.IntN(3)]
		a, b := m.drawBoxes(rank, most), m.drawBoxes(rank, most)
		codes := append(checkCombined(t, a, b), checkNormal(t, a))
		if slices.Contains(codes, impl.ErrFull) {
			full[rank]++
		}
	}
	if full[0]+full[1] > 0 || full[2] < 25 || full[3] < 50 {
		t.Errorf("numbers of sets with too many boxes: %v", full)
	}
}

// Equal sets have equal normal forms, of boxes that do not overlap.
func TestP8NormalFormsAreUnique(t *testing.T) {
	m := newTypeMaker(43)
	cut := 0
	for i := range 3000 {
		list := m.drawBoxes(i%4, 10)
		form, code := impl.NormalBoxes(list)
		if code != impl.OK {
			continue
		}
		again, code := impl.NormalBoxes(form)
		check(t, "normal form of "+boxesText(form), []any{boxesText(again), code}, []any{boxesText(form), int64(impl.OK)})
		parts := m.cutUp(list)
		cut += len(parts) - len(list)
		same, code := impl.NormalBoxes(parts)
		check(t, "normal form of "+boxesText(parts), []any{boxesText(same), code}, []any{boxesText(form), int64(impl.OK)})
		check(t, "SameBoxes of "+boxesText(form), impl.SameBoxes(form, same), true)
		for k, b := range form {
			for _, other := range form[:k] {
				if _, ok := impl.CutBox(b, other); ok {
					t.Fatalf("%s overlap", boxesText(form))
				}
			}
		}
	}
	if cut < 2000 {
		t.Errorf("only %d boxes more", cut)
	}
}

// What is divided by an operation is put together by others.
func TestP8Identities(t *testing.T) {
	m := newTypeMaker(44)
	tried := 0
	for i := range 2000 {
		a, b := m.drawBoxes(i%4, 6), m.drawBoxes(i%4, 6)
		whole, code1 := impl.NormalBoxes(a)
		union, code2 := impl.UnionBoxes(a, b)
		both, code3 := impl.IntersectBoxes(a, b)
		onlyA, code4 := impl.SubtractBoxes(a, b)
		onlyB, code5 := impl.SubtractBoxes(b, a)
		if max(code1, code2, code3, code4, code5) != impl.OK {
			continue
		}
		tried++
		sizes := [4]int64{}
		for k, list := range [][]impl.Box{union, both, onlyA, onlyB} {
			for _, x := range list {
				sizes[k] += impl.BoxSize(x)
			}
		}
		check(t, "sizes", sizes[0], sizes[1]+sizes[2]+sizes[3])
		again, code := impl.UnionBoxes(onlyA, both)
		check(t, "difference and intersection", []any{boxesText(again), code}, []any{boxesText(whole), int64(impl.OK)})
		rest, code := impl.SubtractBoxes(union, b)
		check(t, "union without b", []any{boxesText(rest), code}, []any{boxesText(onlyA), int64(impl.OK)})
		none, code := impl.IntersectBoxes(onlyA, onlyB)
		check(t, "both differences", []any{boxesText(none), code}, []any{"", int64(impl.OK)})
	}
	if tried < 1000 {
		t.Errorf("only %d pairs", tried)
	}
}

func TestP8CoordinatesInBoxes(t *testing.T) {
	m := newTypeMaker(45)
	for i := range 300 {
		rank := i % 4
		list := m.drawBoxes(rank, 4)
		inside := cellsOf(rank, list)
		all := everyDims(rank, []int64{math.MinInt64, -1, 0, 1, 2, 39, 40, 41, math.MaxInt64})
		for _, b := range list {
			for range 20 {
				at := slices.Clone(b.Low)
				for k := range at {
					at[k] = []int64{b.Low[k] - 1, b.Low[k], m.between(b.Low[k], b.High[k]-1), b.High[k] - 1, b.High[k]}[m.IntN(5)]
				}
				all = append(all, at)
			}
		}
		for _, at := range all {
			if got := impl.InBoxes(list, at); got != inside.has(at) {
				t.Fatalf("InBoxes of %s at %v: got %v", boxesText(list), at, got)
			}
		}
	}
	for _, c := range []struct {
		list string
		at   []int64
		want bool
	}{
		{"", nil, false}, {"", []int64{0}, false}, {".", nil, true}, {".", []int64{}, true}, {".", []int64{0}, false}, {"0:4", nil, false}, {"0:4", []int64{0, 0}, false}, {"0:4,0:4", []int64{0}, false}, {"0:4,0:4", []int64{0, 0, 0}, false},
		{"0:7 9:10", []int64{6}, true}, {"0:7 9:10", []int64{7}, false}, {"0:7 9:10", []int64{9}, true}, {"0:7 9:10", []int64{9, 0}, false}, {"0:40,0:40,0:40", []int64{39, 39, 39}, true}, {"0:40,0:40,0:40", []int64{39, 39, 40}, false}, {"0:40,0:40,0:40", []int64{0, 0, 0, 0}, false},
	} {
		check(t, "InBoxes of "+c.list+" at "+shown(c.at), impl.InBoxes(boxesIn(c.list), c.at), c.want)
	}
}

// checkInvalidBoxes checks that a list is refused, also beside a valid one.
func checkInvalidBoxes(t *testing.T, list []impl.Box) {
	t.Helper()
	what := shown(list)
	for _, b := range list {
		check(t, "InBoxes of "+what, impl.InBoxes(list, b.Low), false)
	}
	bounds, ok := impl.BoundsOf(list)
	checkShown(t, "BoundsOf "+what, shown(bounds, ok), shown(impl.Box{}, false))
	form, code := impl.NormalBoxes(list)
	checkShown(t, "NormalBoxes of "+what, shown(form, code), shown([]impl.Box{}, impl.ErrInvalid))
	for _, other := range [][]impl.Box{nil, boxesIn("."), boxesIn("0:1"), boxesIn("0:1,0:1"), bars(10, 0), list} {
		for _, o := range boxOperations() {
			for _, pair := range [][2][]impl.Box{{list, other}, {other, list}} {
				result, code := o.do(pair[0], pair[1])
				checkShown(t, o.name+" of "+shown(pair), shown(result, code), shown([]impl.Box{}, impl.ErrInvalid))
			}
		}
	}
}

func TestP8ListsThatAreNotValid(t *testing.T) {
	for _, b := range oddBoxes() {
		good := slices.Repeat([]impl.Box{boxOf(make([]int64, len(b.Low)), slices.Repeat([]int64{40}, len(b.Low)))}, 2)
		for i := range 3 {
			checkInvalidBoxes(t, slices.Insert(slices.Clone(good), i, b))
		}
	}
	for _, text := range []string{". 0:1", "0:1 .", "0:1 0:1,0:1", "0:1,0:1 0:1", "0:1,0:1 0:1,0:1 0:1,0:1,0:1", "0:1,0:1,0:1 0:1,0:1,0:1 0:1,0:1", ". . . 0:1"} {
		checkInvalidBoxes(t, boxesIn(text))
	}
	// One box too many, whatever the boxes are.
	for _, text := range []string{".", "0:40", "0:1,0:1", "3:4,3:4,3:4"} {
		checkInvalidBoxes(t, slices.Repeat(boxesIn(text), 33))
		checkInvalidBoxes(t, slices.Repeat(boxesIn(text), 1000))
		most := slices.Repeat(boxesIn(text), 32)
		form, code := impl.NormalBoxes(most)
		check(t, "NormalBoxes of 32 boxes", []any{boxesText(form), code}, []any{text, int64(impl.OK)})
		bounds, ok := impl.BoundsOf(most)
		check(t, "BoundsOf 32 boxes", []any{boxesText([]impl.Box{bounds}), ok}, []any{text, true})
		check(t, "InBoxes of 32 boxes", impl.InBoxes(most, most[0].Low), true)
		checkCombined(t, most, most)
	}
	checkInvalidBoxes(t, manyBoxes(33))
}

func TestP8ListsOfDifferentRanks(t *testing.T) {
	texts := []string{".", "2:3", "2:3,0:1", "2:3,0:1,0:1"}
	for rankA, a := range texts {
		for rankB, b := range texts {
			for _, o := range boxOperations() {
				list, code := o.do(boxesIn(a), boxesIn(b))
				if rankA != rankB {
					checkShown(t, o.name+" of "+a+" and "+b, shown(list, code), shown([]impl.Box{}, impl.ErrInvalid))
				}
			}
		}
		checkCombined(t, boxesIn(a), boxesIn(a))
		checkCombined(t, boxesIn(a), nil)
	}
}

// Normal forms with as many boxes as possible, and with one more.
func TestP8FullNormalForms(t *testing.T) {
	form, code := impl.NormalBoxes(manyBoxes(32))
	check(t, "NormalBoxes of 32 boxes", []any{boxesText(form), code}, []any{boxesText(manyBoxes(32)), int64(impl.OK)})
	square, crossOf32, crossOf33 := boxesIn("0:40,0:40"), slices.Concat(bars(10, 0), bars(2, 1)), slices.Concat(bars(16, 0), bars(1, 1))
	for _, c := range []struct {
		operation string
		a, b      []impl.Box
		count     int
	}{
		{"UnionBoxes", crossOf32, nil, 32}, {"UnionBoxes", crossOf33, nil, 33}, {"UnionBoxes", bars(16, 0), bars(1, 1), 33}, {"UnionBoxes", crossOf33, square, 1},
		{"UnionBoxes", manyBoxes(32)[:20], manyBoxes(32)[20:], 32}, {"UnionBoxes", manyBoxes(33)[:20], manyBoxes(33)[20:], 33}, {"UnionBoxes", manyBoxes(32), boxesIn("0:1,1:2"), 31}, {"UnionBoxes", manyBoxes(32), boxesIn("39:40,39:40"), 33},
		{"IntersectBoxes", bars(4, 0), bars(8, 1), 32}, {"IntersectBoxes", bars(3, 0), bars(11, 1), 33}, {"IntersectBoxes", crossOf33, square, 33}, {"IntersectBoxes", crossOf33, boxesIn("0:1,0:40"), 1},
		{"SubtractBoxes", square, slices.Concat(bars(3, 0), bars(7, 1)), 32}, {"SubtractBoxes", square, slices.Concat(bars(2, 0), bars(10, 1)), 33}, {"SubtractBoxes", crossOf33, square, 0}, {"SubtractBoxes", crossOf33, nil, 33},
	} {
		for _, o := range boxOperations() {
			if o.name != c.operation {
				continue
			}
			list, code := o.do(c.a, c.b)
			what := o.name + " of " + boxesText(c.a) + " and " + boxesText(c.b)
			if c.count > 32 {
				checkShown(t, what, shown(list, code), shown([]impl.Box{}, impl.ErrFull))
			} else {
				check(t, what, []any{len(list), code}, []any{c.count, int64(impl.OK)})
			}
		}
		checkCombined(t, c.a, c.b)
		checkNormal(t, c.a)
	}
	// What is not valid is found before a full normal form.
	checkInvalidBoxes(t, append(slices.Clone(crossOf33), boxesIn("0:1")...))
	checkInvalidBoxes(t, append(slices.Clone(crossOf33), boxOf([]int64{0, 0}, []int64{1, 41})))
}

func checkBoxesOf(t *testing.T, dims []int64, x impl.Selection) int64 {
	t.Helper()
	what := "BoxesOf " + shown(x) + " in " + shown(dims)
	list, code := impl.BoxesOf(dims, x)
	selected, ok := [][]int64(nil), isDims(dims) && isFormed(x)
	if ok {
		selected, ok = selectedOf(dims, x)
	}
	if !ok {
		checkShown(t, what, shown(list, code), shown([]impl.Box{}, impl.ErrInvalid))
		return code
	}
	all := emptyCells(len(dims))
	for _, at := range selected {
		high := slices.Clone(at)
		for i := range high {
			high[i]++
		}
		all.fill(at, high)
	}
	want, wantCode := all.normal(len(dims)), int64(impl.OK)
	if len(want) > 32 {
		want, wantCode = nil, impl.ErrFull
	}
	if !sameBoxLists(list, want) || code != wantCode {
		t.Errorf("%s: got %s, %d, want %s, %d", what, boxesText(list), code, boxesText(want), wantCode)
	}
	checkNew(t, what, []any{dims, x}, list)
	return code
}

func TestP8WrittenSelections(t *testing.T) {
	for _, c := range []struct {
		dims []int64
		text string
		want string
		code int64
	}{
		{[]int64{3, 2}, "all", "0:3,0:2", impl.OK}, {[]int64{3, 0}, "all", "", impl.OK}, {[]int64{0}, "all", "", impl.OK}, {[]int64{0, 40, 40}, "all", "", impl.OK}, {nil, "all", ".", impl.OK}, {[]int64{40}, "all", "0:40", impl.OK}, {[]int64{25, 24}, "all", "0:25,0:24", impl.OK}, {[]int64{2, 3, 4}, "all", "0:2,0:3,0:4", impl.OK},
		{[]int64{3, 2}, "none", "", impl.OK}, {nil, "none", "", impl.OK}, {[]int64{0}, "none", "", impl.OK}, {nil, "slab(;;;)", ".", impl.OK}, {nil, "points()", ".", impl.OK}, {nil, "points(;;;)", ".", impl.OK},
		{[]int64{3, 3}, "slab(0,1;2,1;2,2;1,1)", "0:1,1:3 2:3,1:3", impl.OK}, {[]int64{6}, "slab(1;3;2;2)", "1:3 4:6", impl.OK}, {[]int64{6}, "slab(0;2;3;2)", "0:6", impl.OK}, {[]int64{40}, "slab(0;1;40;1)", "0:40", impl.OK}, {[]int64{40}, "slab(0;2;20;1)", strings.TrimSpace(strings.Join(evenBoxes(20), " ")), impl.OK},
		{[]int64{4, 4}, "slab(0,0;2,2;2,2;2,2)", "0:4,0:4", impl.OK}, {[]int64{4, 4}, "slab(0,0;2,3;2,2;2,1)", "0:4,0:1 0:4,3:4", impl.OK}, {[]int64{2, 2, 3}, "slab(0,0,0;1,1,2;2,2,2;1,1,1)", "0:2,0:2,0:1 0:2,0:2,2:3", impl.OK},
		{[]int64{5}, "points(3;1;3)", "1:2 3:4", impl.OK}, {[]int64{5}, "points(3;1;2)", "1:4", impl.OK}, {[]int64{2, 2}, "points(1,1;0,1;1,0;0,0)", "0:2,0:2", impl.OK}, {[]int64{2, 2}, "points(1,1;0,0)", "0:1,0:1 1:2,1:2", impl.OK}, {[]int64{40}, "points(39;0)", "0:1 39:40", impl.OK},
		{[]int64{12, 12}, "slab(0,0;2,2;6,6;1,1)", "", impl.ErrFull}, {[]int64{5, 21}, "slab(0,0;2,2;3,11;1,1)", "", impl.ErrFull}, {[]int64{40, 15}, "slab(0,0;2,2;20,8;1,1)", "", impl.ErrFull}, {[]int64{5, 5, 7}, "slab(0,0,0;2,2,2;3,3,4;1,1,1)", "", impl.ErrFull},
		{[]int64{3}, "slab(0,1;2,1;2,2;1,1)", "", impl.ErrInvalid}, {[]int64{12, 10}, "slab(0,0;2,2;6,6;1,1)", "", impl.ErrInvalid}, {[]int64{41}, "all", "", impl.ErrInvalid}, {[]int64{25, 25}, "all", "", impl.ErrInvalid}, {[]int64{25, 25}, "none", "", impl.ErrInvalid}, {[]int64{3}, "points(3)", "", impl.ErrInvalid}, {[]int64{3}, "points(0,0)", "", impl.ErrInvalid}, {nil, "points(0)", "", impl.ErrInvalid},
	} {
		x, ok := impl.ReadSelection(c.text)
		list, code := impl.BoxesOf(c.dims, x)
		check(t, "BoxesOf "+c.text+" in "+shown(c.dims), []any{boxesText(list), code, ok}, []any{c.want, c.code, true})
		checkBoxesOf(t, c.dims, x)
	}
	// As many boxes as possible.
	for _, c := range []struct {
		dims []int64
		text string
	}{{[]int64{7, 15}, "slab(0,0;2,2;4,8;1,1)"}, {[]int64{15, 7}, "slab(0,0;2,2;8,4;1,1)"}, {[]int64{3, 7, 7}, "slab(0,0,0;2,2,2;2,4,4;1,1,1)"}} {
		x, _ := impl.ReadSelection(c.text)
		list, code := impl.BoxesOf(c.dims, x)
		check(t, "BoxesOf "+c.text, []any{len(list), code}, []any{32, int64(impl.OK)})
		checkBoxesOf(t, c.dims, x)
	}
}

// evenBoxes are the texts of boxes that contain the first even numbers.
func evenBoxes(count int64) []string {
	var list []string
	for k := range count {
		list = append(list, boxesText([]impl.Box{boxOf([]int64{2 * k}, []int64{2*k + 1})}))
	}
	return list
}

func TestP8DrawnSelections(t *testing.T) {
	m := newTypeMaker(46)
	codes := map[int64]int{}
	for range 1500 {
		dims := m.drawDims()
		codes[checkBoxesOf(t, dims, m.drawSelection(dims))]++
		codes[checkBoxesOf(t, m.drawDims(), m.drawSelection(dims))]++
		codes[checkBoxesOf(t, dims, m.drawPattern(dims))]++
	}
	if codes[impl.OK] < 300 || codes[impl.ErrFull] < 20 || codes[impl.ErrInvalid] < 100 {
		t.Errorf("too few of a code: %v", codes)
	}
	for _, x := range illFormed() {
		for _, dims := range [][]int64{nil, {4}, {4, 4}, {4, 4, 4}} {
			checkBoxesOf(t, dims, x)
		}
	}
}

func TestP8Bounds(t *testing.T) {
	for _, c := range [][2]string{
		{".", "."}, {". .", "."}, {"2:3", "2:3"}, {"2:3 7:9 0:1", "0:9"}, {"7:9 2:3", "2:9"}, {"0:9 2:3", "0:9"}, {"0:40 39:40", "0:40"}, {"0:1,5:6 3:4,2:3", "0:4,2:6"}, {"3:4,2:3 0:1,5:6", "0:4,2:6"}, {"0:1,0:1,0:1 39:40,39:40,39:40", "0:40,0:40,0:40"}, {"5:6,0:9,3:4 5:6,2:3,1:2 4:5,1:2,7:8", "4:6,0:9,1:8"},
	} {
		bounds, ok := impl.BoundsOf(boxesIn(c[0]))
		check(t, "BoundsOf "+c[0], []any{boxesText([]impl.Box{bounds}), ok}, []any{c[1], true})
	}
	for _, list := range [][]impl.Box{nil, {}} {
		bounds, ok := impl.BoundsOf(list)
		checkShown(t, "BoundsOf no box", shown(bounds, ok), shown(impl.Box{}, false))
	}
	m := newTypeMaker(47)
	for i := range 3000 {
		list := m.drawBoxes(i%4, 32)
		if len(list) == 0 {
			continue
		}
		var low, high []int64
		for k := range i % 4 {
			var lows, highs []int64
			for _, b := range list {
				lows, highs = append(lows, b.Low[k]), append(highs, b.High[k])
			}
			low, high = append(low, slices.Min(lows)), append(high, slices.Max(highs))
		}
		bounds, ok := impl.BoundsOf(list)
		checkShown(t, "BoundsOf "+boxesText(list), shown(bounds, ok), shown(boxOf(low, high), true))
		checkNew(t, "BoundsOf", []any{list}, bounds)
	}
}

func boxResults(a, b []impl.Box, dims []int64, x impl.Selection) []any {
	first, second := impl.Box{}, impl.Box{}
	if len(a) > 0 {
		first, second = a[0], a[len(a)-1]
	}
	cut, isCut := impl.CutBox(first, second)
	form, formCode := impl.NormalBoxes(a)
	union, unionCode := impl.UnionBoxes(a, b)
	both, bothCode := impl.IntersectBoxes(a, b)
	rest, restCode := impl.SubtractBoxes(a, b)
	selected, selectedCode := impl.BoxesOf(dims, x)
	bounds, isBounded := impl.BoundsOf(b)
	return []any{impl.ValidBox(first), impl.SameBoxes(a, b), impl.BoxSize(second), impl.InBoxes(a, dims), cut, isCut,
		form, formCode, union, unionCode, both, bothCode, rest, restCode, selected, selectedCode, bounds, isBounded}
}

func TestP1BoxesReturnForAllArguments(t *testing.T) {
	lists := oddLists()
	for i, low := range lists {
		high, dims := lists[len(lists)-1-i], lists[i*7%len(lists)]
		list := []impl.Box{boxOf(low, high), boxOf(make([]int64, len(low)), low), boxOf(low, low)}
		for _, x := range []impl.Selection{selectAll, selectNone, pointsOf(low, high), slabOf(low, high, high, low), {}} {
			for _, a := range [][]impl.Box{nil, list[:1], list} {
				b := slices.Concat(list[1:], a)
				checkShown(t, "second call", shown(boxResults(roomyBoxes(a), roomyBoxes(b), roomyList(dims), roomySelection(x))...), shown(boxResults(a, b, dims, x)...))
			}
		}
	}
	_, code := impl.NormalBoxes(slices.Repeat(boxesIn("0:1"), 1000000))
	check(t, "long list", code, int64(impl.ErrInvalid))
}

func TestP1BoxesAreNotModified(t *testing.T) {
	m := newTypeMaker(48)
	for i := range 600 {
		a, b := roomyBoxes(m.drawBoxes(i%4, 6)), roomyBoxes(m.drawBoxes(i%4, 6))
		dims := roomyList(m.drawDims())
		x := roomySelection(m.drawSelection(dims))
		before := shown(wideBoxes(a), wideBoxes(b), wideList(dims), wideSelection(x))
		results := boxResults(a, b, dims, x)
		first := shown(results...)
		checkNew(t, "results", []any{a, b, dims, x}, results...)
		second := shown(boxResults(a, b, dims, x)...)
		checkShown(t, "arguments after the calls", shown(wideBoxes(a), wideBoxes(b), wideList(dims), wideSelection(x)), before)
		checkShown(t, "second call", second, first)
	}
}
