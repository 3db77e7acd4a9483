package tests

import (
	"slices"
	"strconv"
	"strings"
	"testing"

	"loop.example/g00904/impl"
)

func boxOf(low, high []int64) impl.Box {
	return impl.Box{Low: low, High: high}
}

// boxesIn returns the boxes of a text such as 0:3,1:2 3:4,0:5; the one of rank
// 0 is a dot.
func boxesIn(text string) []impl.Box {
	var list []impl.Box
	for _, word := range strings.Fields(text) {
		b := impl.Box{}
		for _, part := range strings.Split(strings.Trim(word, "."), ",") {
			if low, high, ok := strings.Cut(part, ":"); ok {
				b.Low, b.High = append(b.Low, numberIn(low)), append(b.High, numberIn(high))
			}
		}
		list = append(list, b)
	}
	return list
}

func numberIn(word string) int64 {
	n, err := strconv.ParseInt(word, 10, 64)
	if err != nil {
		panic(err)
	}
	return n
}

func boxesText(list []impl.Box) string {
	var words []string
	for _, b := range list {
		var parts []string
		for i, low := range b.Low {
			parts = append(parts, strconv.FormatInt(low, 10)+":"+strconv.FormatInt(b.High[i], 10))
		}
		if len(parts) == 0 {
			parts = []string{"."}
		}
		words = append(words, strings.Join(parts, ","))
	}
	return strings.Join(words, " ")
}

// isBox tells what impl.ValidBox should tell.
func isBox(b impl.Box) bool {
	if len(b.Low) != len(b.High) || len(b.Low) > 3 {
		return false
	}
	for i, low := range b.Low {
		if !isBetween(0, low, 39) || !isBetween(low+1, b.High[i], 40) {
			return false
		}
	}
	return true
}

func isBoxList(list []impl.Box) bool {
	for _, b := range list {
		if len(list) > 32 || !isBox(b) || len(b.Low) != len(list[0].Low) {
			return false
		}
	}
	return true
}

// cells are all coordinates of a rank, each from 0 to 39, in row-major order;
// they tell which of them are in a set.
type cells []bool

func emptyCells(rank int) cells {
	count := 1
	for range rank {
		count *= 40
	}
	return make(cells, count)
}

func cellsOf(rank int, list []impl.Box) cells {
	c := emptyCells(rank)
	for _, b := range list {
		c.fill(b.Low, b.High)
	}
	return c
}

// section returns the cells of the remaining coordinates.
func (c cells) section(first int64) cells {
	size := int64(len(c) / 40)
	return c[first*size : (first+1)*size]
}

func (c cells) fill(low, high []int64) {
	if len(low) == 0 {
		c[0] = true
		return
	}
	for first := low[0]; first < high[0]; first++ {
		c.section(first).fill(low[1:], high[1:])
	}
}

func (c cells) has(at []int64) bool {
	for _, first := range at {
		if !isBetween(0, first, 39) {
			return false
		}
		c = c.section(first)
	}
	return c[0]
}

func (c cells) count() int64 {
	count := int64(0)
	for _, in := range c {
		if in {
			count++
		}
	}
	return count
}

// normal returns the normal form by its definition.
func (c cells) normal(rank int) []impl.Box {
	if rank == 0 {
		if c[0] {
			return []impl.Box{{}}
		}
		return nil
	}
	var list []impl.Box
	for low := int64(0); low < 40; {
		high := low + 1
		for high < 40 && slices.Equal(c.section(low), c.section(high)) {
			high++
		}
		for _, b := range c.section(low).normal(rank - 1) {
			list = append(list, boxOf(append([]int64{low}, b.Low...), append([]int64{high}, b.High...)))
		}
		low = high
	}
	return list
}

func inUnion(inA, inB bool) bool        { return inA || inB }
func inIntersection(inA, inB bool) bool { return inA && inB }
func inDifference(inA, inB bool) bool   { return inA && !inB }

func combinedCells(a, b cells, keep func(inA, inB bool) bool) cells {
	c := make(cells, len(a))
	for i := range c {
		c[i] = keep(a[i], b[i])
	}
	return c
}

// combinedBoxes returns what an operation on two lists should return.
func combinedBoxes(a, b []impl.Box, keep func(inA, inB bool) bool) ([]impl.Box, int64) {
	if !isBoxList(a) || !isBoxList(b) || len(a) > 0 && len(b) > 0 && len(a[0].Low) != len(b[0].Low) {
		return nil, impl.ErrInvalid
	}
	rank := 0
	for _, x := range slices.Concat(a, b) {
		rank = len(x.Low)
	}
	list := combinedCells(cellsOf(rank, a), cellsOf(rank, b), keep).normal(rank)
	if len(list) > 32 {
		return nil, impl.ErrFull
	}
	return list, impl.OK
}

type boxOperation struct {
	name string
	do   func(a, b []impl.Box) ([]impl.Box, int64)
	keep func(inA, inB bool) bool
}

func boxOperations() []boxOperation {
	return []boxOperation{
		{"UnionBoxes", impl.UnionBoxes, inUnion},
		{"IntersectBoxes", impl.IntersectBoxes, inIntersection},
		{"SubtractBoxes", impl.SubtractBoxes, inDifference},
	}
}

// checkCombined checks all operations on two lists, and returns their codes.
func checkCombined(t *testing.T, a, b []impl.Box) []int64 {
	t.Helper()
	var codes []int64
	for _, o := range boxOperations() {
		for _, pair := range [][2][]impl.Box{{a, b}, {b, a}} {
			list, code := o.do(pair[0], pair[1])
			want, wantCode := combinedBoxes(pair[0], pair[1], o.keep)
			if !sameBoxLists(list, want) || code != wantCode {
				t.Fatalf("%s of %s and %s: got %s, %d, want %s, %d", o.name, shown(pair[0]), shown(pair[1]), boxesText(list), code, boxesText(want), wantCode)
			}
			checkNew(t, o.name, []any{a, b}, list)
			codes = append(codes, code)
		}
	}
	return codes
}

func sameBoxLists(a, b []impl.Box) bool {
	return slices.EqualFunc(a, b, func(x, y impl.Box) bool { return slices.Equal(x.Low, y.Low) && slices.Equal(x.High, y.High) })
}

func checkNormal(t *testing.T, list []impl.Box) int64 {
	t.Helper()
	form, code := impl.NormalBoxes(list)
	want, wantCode := combinedBoxes(list, nil, inUnion)
	if !sameBoxLists(form, want) || code != wantCode {
		t.Fatalf("NormalBoxes of %s: got %s, %d, want %s, %d", shown(list), boxesText(form), code, boxesText(want), wantCode)
	}
	checkNew(t, "NormalBoxes", []any{list}, form)
	return code
}

// drawBoxes returns a valid list. Small boxes in little room touch, overlap and
// contain each other most often.
func (m typeMaker) drawBoxes(rank, most int) []impl.Box {
	room := []int64{3, 6, 12, 40}[m.IntN(4)]
	from := m.between(0, 40-room)
	width := []int64{1, 2, 5, 40}[m.IntN(4)]
	list := make([]impl.Box, m.IntN(most+1))
	for i := range list {
		for range rank {
			low := m.between(0, room-1)
			high := m.between(low+1, min(low+width, room))
			list[i].Low, list[i].High = append(list[i].Low, from+low), append(list[i].High, from+high)
		}
	}
	return list
}

// cutUp returns another list with the same set: boxes are divided and
// repeated, in another order.
func (m typeMaker) cutUp(list []impl.Box) []impl.Box {
	var parts []impl.Box
	for i, b := range list {
		room := 32 - len(parts) - (len(list) - i)
		if room > 0 && len(b.Low) > 0 && m.IntN(3) > 0 {
			k := m.IntN(len(b.Low))
			if at := m.between(b.Low[k], b.High[k]-1); at > b.Low[k] {
				before, behind := boxOf(b.Low, slices.Clone(b.High)), boxOf(slices.Clone(b.Low), b.High)
				// The parts may overlap.
				before.High[k], behind.Low[k] = m.between(at, b.High[k]), at
				parts = append(parts, before)
				b = behind
			}
		} else if room > 0 && m.IntN(3) > 0 {
			parts = append(parts, b)
		}
		parts = append(parts, b)
	}
	m.Shuffle(len(parts), func(i, j int) { parts[i], parts[j] = parts[j], parts[i] })
	return parts
}

func roomyBoxes(list []impl.Box) []impl.Box {
	copied := make([]impl.Box, 0, len(list)+2)
	for _, b := range list {
		copied = append(copied, boxOf(roomyList(b.Low), roomyList(b.High)))
	}
	spare := boxOf([]int64{77}, []int64{78})
	return append(copied, spare, spare)[:len(list)]
}

func wideBoxes(list []impl.Box) []impl.Box {
	var copied []impl.Box
	for _, b := range list[:cap(list)] {
		copied = append(copied, boxOf(wideList(b.Low), wideList(b.High)))
	}
	return copied
}

// manyBoxes returns that many boxes of rank 2 that do not touch, in the order of
// a normal form.
func manyBoxes(count int64) []impl.Box {
	var list []impl.Box
	for k := range count {
		low := []int64{2 * (k / 11), 2 * (k % 11)}
		list = append(list, boxOf(low, []int64{low[0] + 1, low[1] + 1}))
	}
	return list
}

// bars returns that many boxes of rank 2 that do not touch; each has one number
// in a dimension and all numbers in the other one.
func bars(count int64, dimension int) []impl.Box {
	var list []impl.Box
	for k := range count {
		b := boxOf([]int64{0, 0}, []int64{40, 40})
		b.Low[dimension], b.High[dimension] = 2*k+1, 2*k+2
		list = append(list, b)
	}
	return list
}

// drawPattern returns a hyperslab that fills dimensions with small blocks.
func (m typeMaker) drawPattern(dims []int64) impl.Selection {
	if slices.Contains(dims, 0) {
		return selectAll
	}
	x := impl.Selection{Kind: impl.SeSlab}
	for _, n := range dims {
		block := m.between(1, min(n, 2))
		stride := block + min(1, m.between(0, 5))
		x.Start, x.Stride = append(x.Start, 0), append(x.Stride, stride)
		x.Count, x.Block = append(x.Count, 1+(n-block)/stride), append(x.Block, block)
	}
	return x
}
