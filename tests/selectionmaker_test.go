package tests

import (
	"fmt"
	"slices"
	"strconv"
	"strings"
	"testing"

	"loop.example/g00904/impl"
)

// shown returns a value as a text in which nil and empty slices are equal.
func shown(values ...any) string {
	return fmt.Sprintf("%+v", values)
}

func checkShown(t *testing.T, what string, got, want string) {
	t.Helper()
	if got != want {
		t.Errorf("%s: got %s, want %s", what, got, want)
	}
}

func isBetween(low, n, high int64) bool {
	return low <= n && n <= high
}

// isDims tells what impl.ValidDims should tell.
func isDims(dims []int64) bool {
	elements := int64(1)
	for _, n := range dims {
		if len(dims) > 3 || !isBetween(0, n, 40) {
			return false
		}
		elements *= n
	}
	return elements <= 600
}

// rowMajor returns the coordinates of all elements in row-major order.
func rowMajor(dims []int64) [][]int64 {
	list := [][]int64{{}}
	for _, n := range dims {
		var longer [][]int64
		for _, at := range list {
			for c := range n {
				longer = append(longer, append(slices.Clone(at), c))
			}
		}
		list = longer
	}
	return list
}

// everyDims returns all lists of dimensions of a rank that consist of some numbers.
func everyDims(rank int, numbers []int64) [][]int64 {
	list := [][]int64{{}}
	for range rank {
		var longer [][]int64
		for _, dims := range list {
			for _, n := range numbers {
				longer = append(longer, append(slices.Clone(dims), n))
			}
		}
		list = longer
	}
	return list
}

func numbersFrom(low, high int64) []int64 {
	var list []int64
	for n := low; n <= high; n++ {
		list = append(list, n)
	}
	return list
}

func space(dims, most []int64) impl.Space {
	return impl.Space{Dims: dims, Max: most}
}

func isSpace(x impl.Space) bool {
	if !isDims(x.Dims) || len(x.Max) != len(x.Dims) {
		return false
	}
	for i, most := range x.Max {
		if most != -1 && !isBetween(x.Dims[i], most, 40) {
			return false
		}
	}
	return true
}

// formsOfSpace returns the text form and the binary form of a valid dataspace.
func formsOfSpace(x impl.Space) (text, binary string) {
	binary = string([]byte{byte(len(x.Dims))})
	var words []string
	for i, n := range x.Dims {
		word, last := strconv.FormatInt(n, 10), byte(x.Max[i])
		if x.Max[i] == -1 {
			word, last = word+"/*", 255
		} else if x.Max[i] > n {
			word += "/" + strconv.FormatInt(x.Max[i], 10)
		}
		words = append(words, word)
		binary += string([]byte{byte(n), last})
	}
	return "(" + strings.Join(words, ",") + ")", binary
}

// drawDims returns valid dimensions.
func (m typeMaker) drawDims() []int64 {
	dims := make([]int64, m.IntN(4))
	for i := range dims {
		dims[i] = m.between(1, []int64{1, 4, 8, 12, 40}[m.IntN(5)])
		if m.IntN(12) == 0 {
			dims[i] = 0
		}
	}
	if !isDims(dims) {
		return m.drawDims()
	}
	return dims
}

func (m typeMaker) drawSpace() impl.Space {
	x := impl.Space{Dims: m.drawDims()}
	for _, n := range x.Dims {
		x.Max = append(x.Max, []int64{-1, n, m.between(n, 40), 40}[m.IntN(4)])
	}
	return x
}

func slabOf(start, stride, count, block []int64) impl.Selection {
	return impl.Selection{Kind: impl.SeSlab, Start: start, Stride: stride, Count: count, Block: block}
}

// slabOfOne returns the hyperslab of rank 1.
func slabOfOne(start, stride, count, block int64) impl.Selection {
	return slabOf([]int64{start}, []int64{stride}, []int64{count}, []int64{block})
}

func pointsOf(list ...[]int64) impl.Selection {
	x := impl.Selection{Kind: impl.SePoints}
	for _, at := range list {
		x.Points = append(x.Points, impl.Point{At: at})
	}
	return x
}

var (
	selectAll  = impl.Selection{Kind: impl.SeAll}
	selectNone = impl.Selection{Kind: impl.SeNone}
)

func isAxis(start, stride, count, block int64) bool {
	return isBetween(0, start, 40) && isBetween(1, count, 40) && isBetween(1, block, 40) && isBetween(block, stride, 40) &&
		start+(count-1)*stride+block <= 40
}

// isFormed tells what impl.FormedSelection should tell.
func isFormed(x impl.Selection) bool {
	lists := [][]int64{x.Start, x.Stride, x.Count, x.Block}
	switch x.Kind {
	case impl.SeAll, impl.SeNone:
		return len(slices.Concat(lists...)) == 0 && len(x.Points) == 0
	case impl.SeSlab:
		rank := len(x.Start)
		otherLength := func(list []int64) bool { return len(list) != rank }
		if rank > 3 || slices.ContainsFunc(lists, otherLength) {
			return false
		}
		for i := range rank {
			if !isAxis(x.Start[i], x.Stride[i], x.Count[i], x.Block[i]) {
				return false
			}
		}
		return len(x.Points) == 0
	case impl.SePoints:
		for _, p := range x.Points {
			outside := func(c int64) bool { return !isBetween(0, c, 39) }
			if len(p.At) > 3 || len(p.At) != len(x.Points[0].At) || slices.ContainsFunc(p.At, outside) {
				return false
			}
		}
		return len(slices.Concat(lists...)) == 0 && isBetween(1, int64(len(x.Points)), 24)
	}
	return false
}

// isInSlab searches for the k and the b of each coordinate.
func isInSlab(x impl.Selection, at []int64) bool {
	for i, c := range at {
		found := false
		for k := range x.Count[i] {
			for b := range x.Block[i] {
				found = found || c == x.Start[i]+k*x.Stride[i]+b
			}
		}
		if !found {
			return false
		}
	}
	return true
}

// selectedOf returns the coordinates that a well-formed selection selects, and
// whether it is valid for valid dimensions.
func selectedOf(dims []int64, x impl.Selection) (list [][]int64, ok bool) {
	elements := rowMajor(dims)
	isElement := func(at []int64) bool {
		return slices.ContainsFunc(elements, func(e []int64) bool { return slices.Equal(e, at) })
	}
	switch x.Kind {
	case impl.SeAll:
		return elements, true
	case impl.SeSlab:
		if len(x.Start) != len(dims) {
			return nil, false
		}
		for i, n := range dims {
			if x.Start[i]+(x.Count[i]-1)*x.Stride[i]+x.Block[i] > n {
				return nil, false
			}
		}
		for _, at := range elements {
			if isInSlab(x, at) {
				list = append(list, at)
			}
		}
	case impl.SePoints:
		for _, p := range x.Points {
			if !isElement(p.At) {
				return nil, false
			}
			list = append(list, p.At)
		}
	}
	return list, true
}

// drawSelection returns a selection that is valid for dimensions.
func (m typeMaker) drawSelection(dims []int64) impl.Selection {
	kind := m.between(1, 6)
	if slices.Contains(dims, 0) {
		kind = m.between(1, 2)
	}
	switch kind {
	case impl.SeAll, impl.SeNone:
		return impl.Selection{Kind: kind}
	case impl.SePoints:
		x := impl.Selection{Kind: impl.SePoints}
		for range m.between(1, 24) {
			x.Points = append(x.Points, impl.Point{At: m.drawCoords(dims)})
		}
		return x
	}
	x := impl.Selection{Kind: impl.SeSlab}
	for _, n := range dims {
		start, stride, count, block := m.drawAxis(n)
		x.Start, x.Stride = append(x.Start, start), append(x.Stride, stride)
		x.Count, x.Block = append(x.Count, count), append(x.Block, block)
	}
	return x
}

func (m typeMaker) drawCoords(dims []int64) []int64 {
	at := make([]int64, len(dims))
	for i, n := range dims {
		at[i] = m.between(0, n-1)
	}
	return at
}

// drawAxis returns the numbers of a hyperslab whose end is at most n.
func (m typeMaker) drawAxis(n int64) (start, stride, count, block int64) {
	start = m.between(0, n-1)
	block = m.between(1, min(n-start, 3))
	stride = m.between(block, min(40, block+3))
	if m.IntN(4) == 0 {
		stride = block
	}
	count = m.between(1, 1+(n-start-block)/stride)
	return start, stride, count, block
}

// drawFormed returns a well-formed selection.
func (m typeMaker) drawFormed() impl.Selection {
	widest := []int64{40, 40, 40}
	return m.drawSelection(widest[:m.IntN(4)])
}

func numbersText(list []int64) string {
	return strings.Trim(strings.ReplaceAll(fmt.Sprint(list), " ", ","), "[]")
}

// textOfSelection returns the text form of a well-formed selection.
func textOfSelection(x impl.Selection) string {
	switch x.Kind {
	case impl.SeAll:
		return "all"
	case impl.SeNone:
		return "none"
	case impl.SeSlab:
		return "slab(" + numbersText(x.Start) + ";" + numbersText(x.Stride) + ";" + numbersText(x.Count) + ";" + numbersText(x.Block) + ")"
	}
	text := ""
	for _, p := range x.Points {
		text += ";" + numbersText(p.At)
	}
	return "points(" + text[1:] + ")"
}

// roomyList returns a copy of a list with numbers behind it that must stay as they are.
func roomyList(list []int64) []int64 {
	return append(slices.Clone(list), 77, 78)[:len(list)]
}

// wideList returns a copy of a list with what is behind it.
func wideList(list []int64) []int64 {
	return slices.Clone(list[:cap(list)])
}

func roomySpace(x impl.Space) impl.Space {
	return space(roomyList(x.Dims), roomyList(x.Max))
}

func wideSpace(x impl.Space) impl.Space {
	return space(wideList(x.Dims), wideList(x.Max))
}

func roomySelection(x impl.Selection) impl.Selection {
	copied := slabOf(roomyList(x.Start), roomyList(x.Stride), roomyList(x.Count), roomyList(x.Block))
	copied.Kind = x.Kind
	for _, p := range x.Points {
		copied.Points = append(copied.Points, impl.Point{At: roomyList(p.At)})
	}
	spare := impl.Point{At: []int64{79}}
	copied.Points = append(copied.Points, spare, spare)[:len(x.Points)]
	return copied
}

func wideSelection(x impl.Selection) impl.Selection {
	copied := slabOf(wideList(x.Start), wideList(x.Stride), wideList(x.Count), wideList(x.Block))
	copied.Kind = x.Kind
	for _, p := range x.Points[:cap(x.Points)] {
		copied.Points = append(copied.Points, impl.Point{At: wideList(p.At)})
	}
	return copied
}
