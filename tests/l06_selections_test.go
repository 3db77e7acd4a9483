package tests

import (
	"math"
	"slices"
	"strconv"
	"strings"
	"testing"

	"loop.example/g00904/impl"
)

// manyPoints returns that many points of a rank, at different places.
func manyPoints(count, rank int) impl.Selection {
	x := impl.Selection{Kind: impl.SePoints}
	for i := range count {
		x.Points = append(x.Points, impl.Point{At: slices.Repeat([]int64{int64(i % 40)}, rank)})
	}
	return x
}

// withKind returns a selection of another kind with the same fields.
func withKind(kind int64, x impl.Selection) impl.Selection {
	x.Kind = kind
	return x
}

// illFormed are selections that no dimensions make valid.
func illFormed() []impl.Selection {
	slab, points := slabOf([]int64{0, 1}, []int64{1, 1}, []int64{1, 1}, []int64{1, 1}), pointsOf([]int64{0, 0})
	both := slab
	both.Points = points.Points
	list := []impl.Selection{
		{}, {Kind: -1}, {Kind: 5}, {Kind: math.MinInt64}, {Kind: math.MaxInt64}, withKind(0, slab), withKind(5, slab), withKind(0, points), withKind(7, points),
		withKind(impl.SeAll, slab), withKind(impl.SeAll, points), withKind(impl.SeNone, slab), withKind(impl.SeNone, points),
		withKind(impl.SePoints, slab), withKind(impl.SeSlab, points), withKind(impl.SeSlab, both), withKind(impl.SePoints, both), withKind(impl.SeAll, both),
		{Kind: impl.SePoints}, {Kind: impl.SePoints, Points: []impl.Point{}}, manyPoints(25, 0), manyPoints(25, 1), manyPoints(1000, 3), manyPoints(1, 4), manyPoints(24, 4), manyPoints(1, 1000),
		slabOf([]int64{0, 0, 0, 0}, []int64{1, 1, 1, 1}, []int64{1, 1, 1, 1}, []int64{1, 1, 1, 1}), pointsOf([]int64{1}, []int64{1, 1}), pointsOf([]int64{1, 1}, []int64{1}), pointsOf([]int64{}, []int64{1}), pointsOf([]int64{1}, []int64{}),
		pointsOf([]int64{1, 1, 1}, []int64{1, 1, 1}, []int64{1, 1}),
	}
	for _, kind := range []int64{impl.SeAll, impl.SeNone, impl.SePoints} {
		zero := []int64{0}
		for _, x := range []impl.Selection{{Start: zero}, {Stride: zero}, {Count: zero}, {Block: zero}, {Points: []impl.Point{{}}}} {
			if kind == impl.SePoints && len(x.Points) == 0 {
				x.Points = points.Points
			} else if kind == impl.SePoints {
				x.Block = zero
			}
			list = append(list, withKind(kind, x))
		}
	}
	for i := range 4 {
		for _, change := range []func(list []int64) []int64{
			func(list []int64) []int64 { return nil }, func(list []int64) []int64 { return list[:1] }, func(list []int64) []int64 { return append(slices.Clone(list), 1) },
		} {
			lists := [][]int64{slab.Start, slab.Stride, slab.Count, slab.Block}
			lists[i] = change(lists[i])
			list = append(list, slabOf(lists[0], lists[1], lists[2], lists[3]))
		}
	}
	return list
}

func checkIllFormed(t *testing.T, x impl.Selection) {
	t.Helper()
	what := shown(x)
	check(t, "FormedSelection of "+what, impl.FormedSelection(x), false)
	check(t, "SelectionText of "+what, impl.SelectionText(x), "")
	for _, dims := range [][]int64{nil, {1}, {40}, {2, 2}, {1, 40, 15}} {
		checkNotValid(t, dims, x)
	}
	for _, by := range [][]int64{nil, {0}, {0, 0}, {0, 0, 0}} {
		moved, ok := impl.ShiftSelection(x, by)
		checkShown(t, "ShiftSelection of "+what, shown(moved, ok), shown(impl.Selection{}, false))
	}
}

func checkNotValid(t *testing.T, dims []int64, x impl.Selection) {
	t.Helper()
	what := shown(x) + " in " + shown(dims)
	check(t, "ValidSelection of "+what, impl.ValidSelection(dims, x), false)
	check(t, "SelectedCount of "+what, impl.SelectedCount(dims, x), int64(-1))
	check(t, "SelectedIndices of "+what, impl.SelectedIndices(dims, x), []int64(nil))
	check(t, "IsSelected of "+what, impl.IsSelected(dims, x, make([]int64, len(dims))), false)
}

func TestP7Constants(t *testing.T) {
	check(t, "limit", impl.MaxPoints, 24)
	check(t, "kinds", []int64{impl.SeAll, impl.SeNone, impl.SeSlab, impl.SePoints}, []int64{1, 2, 3, 4})
}

func TestP7SelectionsThatAreNotFormed(t *testing.T) {
	for _, x := range illFormed() {
		checkIllFormed(t, x)
	}
}

func TestP7SelectionsThatAreFormed(t *testing.T) {
	empty := []int64{}
	for _, x := range []impl.Selection{
		selectAll, selectNone, withKind(impl.SeAll, slabOf(empty, empty, empty, empty)), {Kind: impl.SeNone, Start: empty, Points: []impl.Point{}},
		slabOf(nil, nil, nil, nil), slabOf(empty, nil, empty, nil), {Kind: impl.SeSlab, Points: []impl.Point{}}, slabOfOne(39, 40, 1, 1), slabOfOne(0, 40, 1, 40), slabOfOne(0, 1, 40, 1),
		manyPoints(1, 0), manyPoints(24, 0), manyPoints(24, 1), manyPoints(24, 3), pointsOf([]int64{39, 39, 39}, []int64{0, 0, 0}), pointsOf([]int64{5}, []int64{5}, []int64{5}), pointsOf(nil, empty),
	} {
		check(t, "FormedSelection of "+shown(x), impl.FormedSelection(x), true)
	}
}

// The limits of each number of a hyperslab, in each dimension of each rank.
func TestP7HyperslabsAtTheirLimits(t *testing.T) {
	numbers := []int64{math.MinInt64, -1, 0, 1, 2, 3, 13, 19, 20, 21, 39, 40, 41, math.MaxInt64}
	formed := 0
	for others := range 3 {
		for place := range others + 1 {
			for _, n := range everyDims(4, numbers) {
				among := func(n, other int64) []int64 {
					return slices.Insert(slices.Repeat([]int64{other}, others), place, n)
				}
				x := slabOf(among(n[0], 3), among(n[1], 1), among(n[2], 1), among(n[3], 1))
				if got := impl.FormedSelection(x); got != isFormed(x) {
					t.Fatalf("FormedSelection of %s: got %v", shown(x), got)
				} else if got {
					formed++
				}
			}
		}
	}
	if formed < 600 {
		t.Errorf("only %d are well-formed", formed)
	}
}

func TestP7CoordinatesAtTheirLimits(t *testing.T) {
	for _, c := range append(oddNumbers(), 38, 39, 40, 41) {
		for rank := 1; rank <= 3; rank++ {
			for i := range rank {
				at := make([]int64, rank)
				at[i] = c
				for _, x := range []impl.Selection{pointsOf(at), pointsOf(make([]int64, rank), at), pointsOf(at, make([]int64, rank))} {
					check(t, "FormedSelection of "+shown(x), impl.FormedSelection(x), 0 <= c && c <= 39)
				}
			}
		}
	}
}

// checkSelected checks what a well-formed selection selects in valid dimensions.
func checkSelected(t *testing.T, dims []int64, x impl.Selection) {
	t.Helper()
	selected, ok := selectedOf(dims, x)
	if !ok {
		checkNotValid(t, dims, x)
		return
	}
	what := shown(x) + " in " + shown(dims)
	var indices []int64
	elements := rowMajor(dims)
	isAt := map[string]bool{}
	for _, at := range selected {
		indices = append(indices, int64(slices.IndexFunc(elements, func(e []int64) bool { return slices.Equal(e, at) })))
		isAt[numbersText(at)] = true
	}
	check(t, "ValidSelection of "+what, impl.ValidSelection(dims, x), true)
	check(t, "SelectedCount of "+what, impl.SelectedCount(dims, x), int64(len(selected)))
	if got := impl.SelectedIndices(dims, x); !slices.Equal(got, indices) {
		t.Errorf("SelectedIndices of %s: got %v, want %v", what, got, indices)
	}
	for _, at := range elements {
		if got := impl.IsSelected(dims, x, at); got != isAt[numbersText(at)] {
			t.Errorf("IsSelected of %s at %v: got %v", what, at, got)
		}
	}
}

// checkNoElementSelected checks coordinates that are those of no element.
func checkNoElementSelected(t *testing.T, dims []int64, x impl.Selection) {
	t.Helper()
	outside := [][]int64{make([]int64, len(dims)+1), append(slices.Clone(dims), 0), {0, 0, 0, 0}}
	for i, n := range dims {
		for _, c := range []int64{math.MinInt64, -1, n, n + 1, math.MaxInt64} {
			at := make([]int64, len(dims))
			at[i] = c
			outside = append(outside, at, at[:i], at[i+1:])
		}
	}
	for _, at := range outside {
		check(t, "IsSelected of "+shown(x)+" in "+shown(dims)+" at "+shown(at), impl.IsSelected(dims, x, at), false)
	}
}

func TestP7WrittenSelections(t *testing.T) {
	example := slabOfOne(1, 3, 2, 2)
	for _, c := range []struct {
		dims    []int64
		x       impl.Selection
		indices []int64
	}{
		{[]int64{6}, example, []int64{1, 2, 4, 5}}, {[]int64{7}, example, []int64{1, 2, 4, 5}}, {[]int64{40}, example, []int64{1, 2, 4, 5}},
		{[]int64{5, 3}, slabOf([]int64{0, 1}, []int64{2, 1}, []int64{3, 2}, []int64{1, 1}), []int64{1, 2, 7, 8, 13, 14}},
		{[]int64{2, 3}, selectAll, []int64{0, 1, 2, 3, 4, 5}}, {[]int64{2, 3}, selectNone, nil},
		{[]int64{2, 3}, pointsOf([]int64{1, 2}, []int64{0, 0}, []int64{1, 2}), []int64{5, 0, 5}}, {[]int64{4}, pointsOf([]int64{3}, []int64{3}, []int64{3}), []int64{3, 3, 3}},
		{nil, selectAll, []int64{0}}, {nil, selectNone, nil}, {nil, slabOf(nil, nil, nil, nil), []int64{0}}, {nil, pointsOf(nil), []int64{0}}, {nil, pointsOf(nil, nil, nil), []int64{0, 0, 0}}, {nil, manyPoints(24, 0), make([]int64, 24)},
		{[]int64{0}, selectAll, nil}, {[]int64{0}, selectNone, nil}, {[]int64{0, 40, 40}, selectAll, nil}, {[]int64{40, 40, 0}, selectAll, nil}, {[]int64{40, 0}, selectNone, nil},
		// Blocks that touch, and strides that lead nowhere.
		{[]int64{8}, slabOfOne(1, 2, 3, 2), []int64{1, 2, 3, 4, 5, 6}}, {[]int64{4}, slabOfOne(0, 1, 4, 1), []int64{0, 1, 2, 3}}, {[]int64{4}, slabOfOne(1, 40, 1, 3), []int64{1, 2, 3}}, {[]int64{40}, slabOfOne(39, 40, 1, 1), []int64{39}},
		{[]int64{3, 4}, slabOf([]int64{1, 0}, []int64{1, 2}, []int64{2, 2}, []int64{1, 2}), []int64{4, 5, 6, 7, 8, 9, 10, 11}},
		{[]int64{2, 2, 4}, slabOf([]int64{0, 1, 0}, []int64{1, 1, 3}, []int64{2, 1, 2}, []int64{1, 1, 1}), []int64{4, 7, 12, 15}},
		{[]int64{2, 2, 2}, pointsOf([]int64{1, 1, 1}, []int64{0, 1, 0}), []int64{7, 2}}, {[]int64{40, 15}, pointsOf([]int64{39, 14}, []int64{0, 0}), []int64{599, 0}},
	} {
		what := shown(c.x) + " in " + shown(c.dims)
		check(t, "ValidSelection of "+what, impl.ValidSelection(c.dims, c.x), true)
		checkShown(t, "SelectedIndices of "+what, shown(impl.SelectedIndices(c.dims, c.x)), shown(c.indices))
		check(t, "SelectedCount of "+what, impl.SelectedCount(c.dims, c.x), int64(len(c.indices)))
		checkSelected(t, c.dims, c.x)
		checkNoElementSelected(t, c.dims, c.x)
	}
}

// The end of a hyperslab is the dimension, or one more.
func TestP7EndsOfHyperslabs(t *testing.T) {
	for _, n := range everyDims(4, numbersFrom(0, 9)) {
		x := slabOfOne(n[0], n[1], n[2], n[3])
		end := n[0] + (n[2]-1)*n[1] + n[3]
		if !isFormed(x) {
			continue
		}
		for dim := max(0, end-2); dim <= min(40, end+2); dim++ {
			if got := impl.ValidSelection([]int64{dim}, x); got != (end <= dim) {
				t.Fatalf("ValidSelection of %s in %d: got %v", shown(x), dim, got)
			}
		}
		checkSelected(t, []int64{end}, x)
	}
	for i := range 3 {
		dims := []int64{6, 7, 8}
		x := slabOf([]int64{1, 0, 2}, []int64{3, 3, 3}, []int64{2, 3, 2}, []int64{2, 1, 3})
		checkSelected(t, dims, x)
		check(t, "ValidSelection in "+shown(dims), impl.ValidSelection(dims, x), true)
		dims[i]--
		checkNotValid(t, dims, x)
	}
}

func TestP7SelectionsInOtherDimensions(t *testing.T) {
	slab, points := slabOf([]int64{0, 0}, []int64{1, 1}, []int64{1, 1}, []int64{1, 1}), pointsOf([]int64{1, 0}, []int64{0, 2})
	for _, dims := range [][]int64{nil, {4}, {4, 4, 4}, {0, 4}, {4, 0}, {0, 0}} {
		checkNotValid(t, dims, slab)
		checkNotValid(t, dims, points)
	}
	for _, dims := range [][]int64{{1, 3}, {2, 2}, {1, 2}} {
		checkNotValid(t, dims, points)
	}
	checkSelected(t, []int64{2, 3}, points)
	checkNotValid(t, []int64{1}, slabOf(nil, nil, nil, nil))
	checkNotValid(t, []int64{1}, pointsOf(nil))
	checkNotValid(t, nil, slabOfOne(0, 1, 1, 1))
	checkNotValid(t, nil, pointsOf([]int64{0}))
	checkNotValid(t, []int64{0}, slabOfOne(0, 1, 1, 1))
	checkNotValid(t, []int64{0}, pointsOf([]int64{0}))
	for _, c := range writtenDims {
		if c.elements >= 0 {
			continue
		}
		checkNotValid(t, c.dims, selectAll)
		checkNotValid(t, c.dims, selectNone)
		if len(c.dims) <= 3 {
			checkNotValid(t, c.dims, slabOf(make([]int64, len(c.dims)), slices.Repeat([]int64{1}, len(c.dims)), slices.Repeat([]int64{1}, len(c.dims)), slices.Repeat([]int64{1}, len(c.dims))))
			checkNotValid(t, c.dims, pointsOf(make([]int64, len(c.dims))))
		}
	}
}

func TestP7DrawnSelections(t *testing.T) {
	m := newTypeMaker(31)
	kinds := map[int64]int{}
	for range 1500 {
		dims := m.drawDims()
		x := m.drawSelection(dims)
		kinds[x.Kind]++
		check(t, "FormedSelection of "+shown(x), impl.FormedSelection(x), true)
		checkSelected(t, dims, x)
		checkNoElementSelected(t, dims, x)
		checkSelected(t, m.drawDims(), x)
	}
	for kind := int64(1); kind <= 4; kind++ {
		if kinds[kind] < 100 {
			t.Errorf("too few of a kind: %v", kinds)
		}
	}
}

func TestP7Ranges(t *testing.T) {
	for low := int64(-2); low <= 42; low++ {
		for high := int64(-2); high <= 42; high++ {
			checkRange(t, []int64{low}, []int64{high}, 0 <= low && low < high && high <= 40)
		}
	}
	for _, c := range []struct {
		low, high []int64
		ok        bool
	}{
		{nil, nil, true}, {[]int64{1, 0}, []int64{3, 2}, true}, {[]int64{0, 0, 0}, []int64{40, 40, 40}, true}, {[]int64{39, 39, 39}, []int64{40, 40, 40}, true}, {[]int64{0, 1, 2}, []int64{1, 3, 5}, true},
		{[]int64{1, 2}, []int64{3, 2}, false}, {[]int64{3, 2}, []int64{3, 4}, false}, {[]int64{0}, []int64{1, 1}, false}, {[]int64{0, 0}, []int64{1}, false}, {nil, []int64{1}, false}, {[]int64{0}, nil, false},
		{[]int64{0, 0, 0, 0}, []int64{1, 1, 1, 1}, false}, {[]int64{0, 0, 41}, []int64{1, 1, 42}, false}, {[]int64{0, -1, 0}, []int64{1, 1, 1}, false}, {make([]int64, 1000), slices.Repeat([]int64{1}, 1000), false},
	} {
		checkRange(t, c.low, c.high, c.ok)
	}
	for _, n := range oddNumbers() {
		for _, other := range []int64{math.MinInt64, n - 1, n, n + 1, 0, 1, 39, 40, math.MaxInt64} {
			checkRange(t, []int64{n}, []int64{other}, 0 <= n && n < other && other <= 40)
			checkRange(t, []int64{1, n}, []int64{2, other}, 0 <= n && n < other && other <= 40)
		}
	}
}

func checkRange(t *testing.T, low, high []int64, want bool) {
	t.Helper()
	what := "RangeOf " + shown(low, high)
	x, ok := impl.RangeOf(low, high)
	if !want {
		checkShown(t, what, shown(x, ok), shown(impl.Selection{}, false))
		return
	}
	var width, one []int64
	for i := range low {
		width, one = append(width, high[i]-low[i]), append(one, 1)
	}
	checkShown(t, what, shown(x, ok), shown(slabOf(low, width, one, width), true))
	check(t, what+" is well-formed", impl.FormedSelection(x), true)
	checkApart(t, what, x, low, high)
	if !isDims(high) {
		return
	}
	var indices []int64
	for index, at := range rowMajor(high) {
		inside := true
		for i, c := range at {
			inside = inside && low[i] <= c
		}
		if inside {
			indices = append(indices, int64(index))
		}
	}
	if got := impl.SelectedIndices(high, x); !slices.Equal(got, indices) {
		t.Errorf("%s selects %v, want %v", what, got, indices)
	}
}

// shiftedBy returns what impl.ShiftSelection should return for a well-formed selection.
func shiftedBy(x impl.Selection, by []int64) (impl.Selection, bool) {
	tooFar := func(n int64) bool { return !isBetween(-40, n, 40) }
	if x.Kind == impl.SeAll || len(by) > 3 || slices.ContainsFunc(by, tooFar) {
		return impl.Selection{}, false
	}
	if x.Kind == impl.SeNone {
		return x, true
	}
	moved := roomySelection(x)
	lists := [][]int64{moved.Start}
	if x.Kind == impl.SePoints {
		lists = nil
		for _, p := range moved.Points {
			lists = append(lists, p.At)
		}
	}
	for _, list := range lists {
		if len(list) != len(by) {
			return impl.Selection{}, false
		}
		for i, n := range by {
			list[i] += n
		}
	}
	return moved, isFormed(moved)
}

func checkShift(t *testing.T, x impl.Selection, by []int64) bool {
	t.Helper()
	what := "ShiftSelection of " + shown(x) + " by " + shown(by)
	want, isMoved := shiftedBy(x, by)
	moved, ok := impl.ShiftSelection(x, by)
	if !isMoved {
		checkShown(t, what, shown(moved, ok), shown(impl.Selection{}, false))
		return false
	}
	checkShown(t, what, shown(moved, ok), shown(want, true))
	checkApart(t, what, x, by, moved)
	var back []int64
	for _, n := range by {
		back = append(back, -n)
	}
	same, ok := impl.ShiftSelection(moved, back)
	checkShown(t, what+" and back", shown(same, ok), shown(x, true))
	return true
}

func TestP7EveryShiftOfRankOne(t *testing.T) {
	for _, x := range []impl.Selection{
		slabOfOne(0, 1, 1, 1), slabOfOne(39, 1, 1, 1), slabOfOne(20, 40, 1, 1), slabOfOne(0, 40, 1, 40), slabOfOne(0, 1, 40, 1), slabOfOne(1, 3, 2, 2), slabOfOne(5, 7, 5, 7), slabOfOne(7, 5, 5, 3),
		pointsOf([]int64{0}), pointsOf([]int64{39}), pointsOf([]int64{0}, []int64{39}), pointsOf([]int64{5}, []int64{9}, []int64{5}), manyPoints(24, 1), selectAll, selectNone,
	} {
		for by := int64(-45); by <= 45; by++ {
			checkShift(t, x, []int64{by})
		}
		for _, by := range oddNumbers() {
			checkShift(t, x, []int64{by})
		}
	}
}

func TestP7WrittenShifts(t *testing.T) {
	slab, points := slabOf([]int64{0, 1, 2}, []int64{1, 2, 3}, []int64{2, 2, 2}, []int64{1, 2, 3}), pointsOf([]int64{0, 1, 2}, []int64{3, 2, 1}, []int64{0, 1, 2})
	none, one := slabOf(nil, nil, nil, nil), pointsOf(nil, nil)
	for _, c := range []struct {
		x    impl.Selection
		by   []int64
		want string
	}{
		{slab, []int64{0, 0, 0}, "slab(0,1,2;1,2,3;2,2,2;1,2,3)"}, {slab, []int64{38, 35, 32}, "slab(38,36,34;1,2,3;2,2,2;1,2,3)"}, {slab, []int64{0, -1, -2}, "slab(0,0,0;1,2,3;2,2,2;1,2,3)"},
		{slab, []int64{39, 0, 0}, ""}, {slab, []int64{0, 36, 0}, ""}, {slab, []int64{0, 0, 33}, ""}, {slab, []int64{-1, 0, 0}, ""}, {slab, []int64{0, -2, 0}, ""}, {slab, []int64{0, 0, -3}, ""}, {slab, []int64{41, 0, 0}, ""},
		{slab, []int64{0, 0}, ""}, {slab, []int64{0, 0, 0, 0}, ""}, {slab, nil, ""},
		{points, []int64{0, 0, 0}, "points(0,1,2;3,2,1;0,1,2)"}, {points, []int64{36, 37, 37}, "points(36,38,39;39,39,38;36,38,39)"}, {points, []int64{0, -1, -1}, "points(0,0,1;3,1,0;0,0,1)"},
		{points, []int64{37, 0, 0}, ""}, {points, []int64{0, 38, 0}, ""}, {points, []int64{0, 0, 38}, ""}, {points, []int64{-1, 0, 0}, ""}, {points, []int64{0, -2, 0}, ""}, {points, []int64{0, 0, -2}, ""}, {points, []int64{0, 0, -41}, ""},
		{points, []int64{0, 0}, ""}, {points, []int64{0, 0, 0, 0}, ""}, {points, nil, ""},
		{none, nil, "slab(;;;)"}, {none, []int64{0}, ""}, {one, nil, "points(;)"}, {one, []int64{0}, ""}, {one, []int64{0, 0, 0, 0}, ""},
		{selectNone, nil, "none"}, {selectNone, []int64{7}, "none"}, {selectNone, []int64{40, -40}, "none"}, {selectNone, []int64{40, -40, 0}, "none"},
		{selectNone, []int64{41}, ""}, {selectNone, []int64{-41}, ""}, {selectNone, []int64{0, 0, 41}, ""}, {selectNone, []int64{0, 0, 0, 0}, ""}, {selectNone, []int64{math.MinInt64}, ""}, {selectNone, []int64{math.MaxInt64}, ""},
		{selectAll, nil, ""}, {selectAll, []int64{0}, ""}, {selectAll, []int64{0, 0, 0}, ""},
	} {
		moved, ok := impl.ShiftSelection(c.x, c.by)
		check(t, "ShiftSelection of "+shown(c.x)+" by "+shown(c.by), []any{impl.SelectionText(moved), ok}, []any{c.want, c.want != ""})
		checkShift(t, c.x, c.by)
	}
}

func TestP7DrawnShifts(t *testing.T) {
	m := newTypeMaker(32)
	moved := 0
	for range 6000 {
		dims := m.drawDims()
		x := m.drawSelection(dims)
		by := make([]int64, len(dims))
		for i := range by {
			by[i] = m.between(-4, 4)
		}
		if checkShift(t, x, by) {
			moved++
			checkMovedElements(t, dims, x, by)
		}
	}
	if moved < 500 {
		t.Errorf("only %d were moved", moved)
	}
}

// checkMovedElements checks, where both exist, that each element of a shifted
// selection is one of the selection, moved.
func checkMovedElements(t *testing.T, dims []int64, x impl.Selection, by []int64) {
	t.Helper()
	var wider []int64
	for i, n := range dims {
		wider = append(wider, n+max(0, by[i]))
	}
	if !isDims(wider) || x.Kind == impl.SeNone {
		return
	}
	moved, _ := impl.ShiftSelection(x, by)
	before, after := impl.SelectedIndices(wider, x), impl.SelectedIndices(wider, moved)
	check(t, "count of "+shown(moved), len(after), len(before))
	for i := range min(len(before), len(after)) {
		from, to := impl.CoordsOf(wider, before[i]), impl.CoordsOf(wider, after[i])
		for k, n := range by {
			check(t, "coordinate of "+shown(moved), to[k], from[k]+n)
		}
	}
}

func checkSelectionText(t *testing.T, x impl.Selection, text string) {
	t.Helper()
	check(t, "SelectionText of "+shown(x), impl.SelectionText(x), text)
	read, ok := impl.ReadSelection(text)
	checkShown(t, "ReadSelection("+text+")", shown(read, ok), shown(x, true))
	check(t, "SameSelection of "+text, impl.SameSelection(read, x), true)
	checkApart(t, text, x, read)
}

func TestP7WrittenTexts(t *testing.T) {
	for text, x := range map[string]impl.Selection{
		"all": selectAll, "none": selectNone,
		"slab(;;;)": slabOf(nil, nil, nil, nil), "slab(0;1;1;1)": slabOfOne(0, 1, 1, 1), "slab(39;40;1;1)": slabOfOne(39, 40, 1, 1), "slab(0;40;1;40)": slabOfOne(0, 40, 1, 40), "slab(0;1;40;1)": slabOfOne(0, 1, 40, 1),
		"slab(0,1;2,1;3,2;1,1)":         slabOf([]int64{0, 1}, []int64{2, 1}, []int64{3, 2}, []int64{1, 1}),
		"slab(1,2,3;4,5,6;1,2,3;1,1,2)": slabOf([]int64{1, 2, 3}, []int64{4, 5, 6}, []int64{1, 2, 3}, []int64{1, 1, 2}),
		"points()":                      pointsOf(nil), "points(;)": pointsOf(nil, nil), "points(;;;;;;;;;;;;;;;;;;;;;;;)": manyPoints(24, 0),
		"points(0)": pointsOf([]int64{0}), "points(39)": pointsOf([]int64{39}), "points(3;3;10)": pointsOf([]int64{3}, []int64{3}, []int64{10}), "points(0,1;2,3)": pointsOf([]int64{0, 1}, []int64{2, 3}),
		"points(1,2,3;0,0,0;39,39,39)": pointsOf([]int64{1, 2, 3}, []int64{0, 0, 0}, []int64{39, 39, 39}),
	} {
		checkSelectionText(t, x, text)
	}
}

func TestP7DrawnTexts(t *testing.T) {
	m := newTypeMaker(33)
	for range 4000 {
		x := m.drawFormed()
		checkSelectionText(t, x, textOfSelection(x))
	}
}

func TestP7TextsThatAreNoForms(t *testing.T) {
	for _, s := range []string{
		"", " ", "All", "ALL", "None", "all ", " all", "all()", "all(", "all)", "none()", "none(", "none;", "al", "alll", "allnone", "\x00", "all\x00", "empty", "slab", "points", "slabs(0;1;1;1)", "point(0)", "Slab(0;1;1;1)", "Points(0)", "(0;1;1;1)", "(0)", "()",
		"slab()", "slab(;)", "slab(;;)", "slab(;;;;)", "slab(;;;", "slab;;;)", "slab(;;;))", "slab((;;;)", "slab(;;;)all", "slab[;;;]", "slab(,;,;,;,)", "slab (;;;)", "slab( ;;;)",
		"slab(0;1;1)", "slab(0;1;1;1;1)", "slab(0;1;1;1;)", "slab(;0;1;1;1)", "slab(0;1;1;1", "slab(0,0;1;1;1)", "slab(0;1,1;1;1)", "slab(0;1;1,1;1)", "slab(0;1;1;1,1)", "slab(0;1;1;)", "slab(;1;1;1)", "slab(0,1,2,3;1,1,1,1;1,1,1,1;1,1,1,1)",
		"slab(0;0;1;1)", "slab(0;1;0;1)", "slab(0;1;1;0)", "slab(0;1;41;1)", "slab(0;41;1;1)", "slab(0;41;1;41)", "slab(40;1;1;1)", "slab(41;1;1;1)", "slab(39;1;2;1)", "slab(39;2;1;2)", "slab(0;1;1;2)", "slab(1;2;20;2)", "slab(-1;1;1;1)",
		"slab(00;1;1;1)", "slab(0;01;1;1)", "slab(0;1;+1;1)", "slab(-0;1;1;1)", "slab(0;1;1;1.)", "slab(0;1;1;1,)", "slab(,0;1;1;1)", "slab(0,,0;1,1;1,1;1,1)", "slab(0 ;1;1;1)", "slab(0;1;1;0x1)", "slab(0;1;1;x)", "slab(0,0;1,1;1,1;1,41)",
		"points(", "points)", "points", "points(0", "points(0))", "points((0)", "points(0)1", "points(0)all", "points 0", "points(,)", "points( )", "points(0,)", "points(,0)", "points(0;)", "points(;0)", "points(0;;0)", "points(0,,0)", "points(0:1)",
		"points(40)", "points(-1)", "points(0,40)", "points(40,0)", "points(1;1,1)", "points(1,1;1)", "points(1,1,1,1)", "points(00)", "points(01)", "points(+1)", "points(-0)", "points(1.0)", "points(1_0)", "points(\u0661)", "points(99999999999999999999)", "points(9223372036854775808)", "points(-9223372036854775808)",
		"points(;;;;;;;;;;;;;;;;;;;;;;;;)", "points(" + strings.Repeat("1;", 24) + "1)",
	} {
		x, ok := impl.ReadSelection(s)
		checkShown(t, "ReadSelection("+s+")", shown(x, ok), shown(impl.Selection{}, false))
	}
}

func checkReadSelection(t *testing.T, s string) bool {
	t.Helper()
	x, ok := impl.ReadSelection(s)
	if ok && (!isFormed(x) || textOfSelection(x) != s) || !ok && !impl.SameSelection(x, impl.Selection{}) {
		t.Errorf("ReadSelection(%q): got %+v, %v", s, x, ok)
	}
	return ok
}

func TestP7EditedTexts(t *testing.T) {
	m := newTypeMaker(34)
	for range 100 {
		edits(textOfSelection(m.drawFormed()), "(),;-+ 0149al\x00", func(s string) { checkReadSelection(t, s) })
	}
}

// Of all short texts in parentheses, exactly the text forms are read.
func TestP7AllShortTexts(t *testing.T) {
	points, slabs := 0, 0
	texts := []string{""}
	for range 5 {
		longer := []string{""}
		for _, text := range texts {
			for _, c := range "01349,;-+ )" {
				longer = append(longer, text+string(c))
			}
		}
		texts = longer
	}
	for _, text := range texts {
		if checkReadSelection(t, "points("+text+")") {
			points++
		}
		if checkReadSelection(t, "slab("+text+";1;1;1)") {
			slabs++
		}
	}
	// The coordinates that these digits form are 0, 1, 3, 4, 9 and ten of two digits.
	one, two := 5, 10
	rankOne := one + two + one*one + 2*one*two + two*two + one*one*one
	rankTwo := one*one + 2*one*two + two*two
	rankThree := one * one * one
	check(t, "points", points, 6+rankOne+rankTwo+rankThree)
	check(t, "hyperslabs", slabs, one+two)
}

func TestP7SameSelections(t *testing.T) {
	base := slabOf([]int64{1, 2}, []int64{3}, nil, []int64{4, 5, 6, 7})
	base.Kind = 9
	base.Points = []impl.Point{{At: []int64{1, 2}}, {At: nil}, {At: []int64{3}}}
	check(t, "same", impl.SameSelection(base, roomySelection(base)), true)
	for i, change := range []func(x *impl.Selection){
		func(x *impl.Selection) { x.Kind = 8 }, func(x *impl.Selection) { x.Start[1] = 3 }, func(x *impl.Selection) { x.Start = x.Start[:1] }, func(x *impl.Selection) { x.Stride[0] = 0 }, func(x *impl.Selection) { x.Stride = nil },
		func(x *impl.Selection) { x.Count = []int64{0} }, func(x *impl.Selection) { x.Block[3] = 8 }, func(x *impl.Selection) { x.Block = x.Block[1:] }, func(x *impl.Selection) { x.Start, x.Stride = x.Stride, x.Start },
		func(x *impl.Selection) { x.Points[0].At[1] = 1 }, func(x *impl.Selection) { x.Points[1].At = []int64{0} }, func(x *impl.Selection) { x.Points[2].At = nil }, func(x *impl.Selection) { x.Points = x.Points[:2] }, func(x *impl.Selection) { x.Points = nil },
		func(x *impl.Selection) { x.Points[0], x.Points[2] = x.Points[2], x.Points[0] },
	} {
		x := roomySelection(base)
		change(&x)
		check(t, "change "+strconv.Itoa(i), []any{impl.SameSelection(base, x), impl.SameSelection(x, base), impl.SameSelection(x, x)}, []any{false, false, true})
	}
	empty := []int64{}
	x := slabOf(empty, empty, empty, empty)
	x.Points = []impl.Point{}
	check(t, "empty and nil", impl.SameSelection(x, slabOf(nil, nil, nil, nil)), true)
	check(t, "empty and nil points", impl.SameSelection(pointsOf(nil), pointsOf(empty)), true)
}

func selectionResults(dims []int64, x, y impl.Selection, at []int64, s string) []any {
	between, isRange := impl.RangeOf(at, dims)
	moved, isMoved := impl.ShiftSelection(x, at)
	read, isRead := impl.ReadSelection(s)
	return []any{impl.FormedSelection(x), impl.ValidSelection(dims, x), impl.SameSelection(x, y), impl.SelectedCount(dims, x), impl.SelectedIndices(dims, x), impl.IsSelected(dims, x, at),
		between, isRange, moved, isMoved, impl.SelectionText(x), read, isRead}
}

func TestP1SelectionsReturnForAllArguments(t *testing.T) {
	lists, texts := oddLists(), oddStrings()
	all := []impl.Selection{selectAll, selectNone, slabOfOne(0, 1, 1, 1), pointsOf([]int64{0}), pointsOf(nil)}
	for i, list := range lists {
		other := lists[len(lists)-1-i]
		for kind := int64(0); kind <= 5; kind++ {
			all = append(all, withKind(kind, slabOf(list, other, list, other)), withKind(kind, slabOf(other, list, list, list)), withKind(kind, slabOf(make([]int64, len(list)), list, list, list)), withKind(kind, pointsOf(list, other)), withKind(kind, pointsOf(list)))
		}
	}
	for i, x := range all {
		y, dims, at, s := all[len(all)-1-i], lists[i%len(lists)], lists[i/3%len(lists)], texts[i%len(texts)]
		for _, dims := range [][]int64{dims, {40}, {2, 3, 4}} {
			checkShown(t, "second call", shown(selectionResults(roomyList(dims), roomySelection(x), roomySelection(y), at, s)...), shown(selectionResults(dims, x, y, at, s)...))
		}
	}
}

func TestP1SelectionsAreNotModified(t *testing.T) {
	m := newTypeMaker(35)
	for range 1500 {
		dims := roomyList(m.drawDims())
		x, y := roomySelection(m.drawSelection(dims)), roomySelection(m.drawFormed())
		at := roomyList(make([]int64, len(dims)))
		before := shown(wideSelection(x), wideSelection(y), wideList(dims), wideList(at))
		first := shown(selectionResults(dims, x, y, at, impl.SelectionText(x))...)
		second := shown(selectionResults(dims, x, y, at, impl.SelectionText(x))...)
		checkShown(t, "arguments after the calls", shown(wideSelection(x), wideSelection(y), wideList(dims), wideList(at)), before)
		checkShown(t, "second call", second, first)
		between, _ := impl.RangeOf(at, dims)
		moved, _ := impl.ShiftSelection(x, at)
		read, _ := impl.ReadSelection(impl.SelectionText(x))
		checkApart(t, shown(x), x, dims, at, between, moved, read, impl.SelectedIndices(dims, x))
	}
}

func TestP1LongSelections(t *testing.T) {
	const many = 300000
	for _, s := range []string{
		"points(" + strings.Repeat(";", many) + ")", "points(" + strings.Repeat("1,", many) + "1)", "points(" + strings.Repeat("1;", many) + "1)", "points(" + strings.Repeat("9", many) + ")", "points(" + strings.Repeat("0", many) + "1)",
		"slab(" + strings.Repeat(";", many) + ")", "slab(" + strings.Repeat("1,", many) + "1;1;1;1)", strings.Repeat("(", many), strings.Repeat("slab(", many), strings.Repeat("all", many), strings.Repeat(")", many), strings.Repeat(";", many),
	} {
		x, ok := impl.ReadSelection(s)
		checkShown(t, "ReadSelection of a long string", shown(x, ok), shown(impl.Selection{}, false))
	}
	checkIllFormed(t, manyPoints(many, 1))
}
