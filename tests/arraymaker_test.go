package tests

import (
	"math"
	"slices"
	"strings"
	"testing"

	"loop.example/g00904/impl"
)

func arrayIn(of impl.Type, dims []int64, data string) impl.Array {
	return impl.Array{Type: of, Dims: dims, Data: data}
}

// isArray tells what impl.ValidArray should tell of an array with a valid type.
func isArray(a impl.Array) bool {
	size := int(sizeOf(a.Type))
	if !isDims(a.Dims) || len(a.Data) != size*len(rowMajor(a.Dims)) {
		return false
	}
	for data := a.Data; data != ""; data = data[size:] {
		if !isElementOf(a.Type, data[:size]) {
			return false
		}
	}
	return true
}

func sameArrays(a, b impl.Array) bool {
	return impl.SameType(a.Type, b.Type) && slices.Equal(a.Dims, b.Dims) && a.Data == b.Data
}

// elementsIn returns the elements of a valid array by the texts of their coordinates.
func elementsIn(a impl.Array) map[string]string {
	elements := map[string]string{}
	size := int(sizeOf(a.Type))
	for i, at := range rowMajor(a.Dims) {
		elements[numbersText(at)] = a.Data[i*size:][:size]
	}
	return elements
}

// arrayFrom returns the array with the elements that a function returns.
func arrayFrom(of impl.Type, dims []int64, element func(at []int64) string) impl.Array {
	a := arrayIn(of, dims, "")
	for _, at := range rowMajor(dims) {
		a.Data += element(at)
	}
	return a
}

func (m typeMaker) drawArray() impl.Array {
	of := m.draw(3, 24)
	return m.drawArrayOf(of, m.drawDims())
}

func (m typeMaker) drawArrayOf(of impl.Type, dims []int64) impl.Array {
	var elements []string
	for range rowMajor(dims) {
		b, _ := m.drawElement(of)
		elements = append(elements, b)
	}
	return arrayIn(of, dims, strings.Join(elements, ""))
}

// badArrays are arrays that are not valid, because of their type, their
// dimensions or their data.
func badArrays() []impl.Array {
	u1, text, small := intType(1, false, false), textType(2), enumType(intType(1, true, false), []string{"A", "B"}, []int64{1, 2})
	list := []impl.Array{
		{}, arrayIn(u1, []int64{2, 3}, "abcde"), arrayIn(u1, []int64{2, 3}, "abcdefg"), arrayIn(u1, []int64{2, 3}, ""), arrayIn(u1, nil, ""), arrayIn(u1, nil, "ab"), arrayIn(u1, []int64{0}, "a"), arrayIn(u1, []int64{0, 40, 40}, "a"),
		arrayIn(text, []int64{2}, "abc"), arrayIn(text, []int64{2}, "abcde"), arrayIn(text, []int64{2}, "ab"), arrayIn(text, []int64{1}, "abc"), arrayIn(text, []int64{4}, "abcd"), arrayIn(text, nil, "\x00a"), arrayIn(text, nil, "a"),
		arrayIn(text, []int64{3}, "\x00babcd"), arrayIn(text, []int64{3}, "ab\x00bcd"), arrayIn(text, []int64{3}, "abcd\x00b"), arrayIn(small, []int64{3}, "\x03\x01\x01"), arrayIn(small, []int64{3}, "\x01\x00\x01"), arrayIn(small, []int64{3}, "\x01\x01\xff"),
		arrayIn(compoundType(2, member("A", 0, u1)), []int64{2}, "a\x00ab"), arrayIn(compoundType(2, member("A", 1, u1)), []int64{2}, "\x01a\x00b"),
		arrayIn(u1, []int64{-1}, ""), arrayIn(u1, []int64{-1, -1}, "a"), arrayIn(u1, []int64{math.MinInt64, 0}, ""), arrayIn(u1, []int64{math.MaxInt64, math.MaxInt64}, "a"), arrayIn(u1, []int64{1 << 32, 1 << 32}, ""),
		arrayIn(u1, []int64{41}, strings.Repeat("a", 41)), arrayIn(u1, []int64{25, 25}, strings.Repeat("a", 625)), arrayIn(u1, []int64{1, 1, 1, 1}, "a"), arrayIn(u1, []int64{0, 41}, ""), arrayIn(u1, make([]int64, 4), ""), arrayIn(text, []int64{300}, strings.Repeat("a", 600)),
		arrayIn(u1, []int64{40, 15}, strings.Repeat("a", 1000000)),
	}
	for _, of := range badTypes() {
		list = append(list, arrayIn(of, nil, ""), arrayIn(of, []int64{0}, ""), arrayIn(of, []int64{2}, "ab"), arrayIn(of, nil, strings.Repeat("\x00", 24)))
	}
	return list
}

// fillsThatAreNone are strings that are not an element of text(2).
func fillsThatAreNone() []string {
	return []string{"", "a", "abc", "abcd", "\x00a", "\x00\x00\x00", strings.Repeat("ab", 600)}
}

func checkArray(t *testing.T, what string, got impl.Array, code int64, want impl.Array, arguments ...any) {
	t.Helper()
	if code != impl.OK || !sameArrays(got, want) {
		t.Fatalf("%s: got %s, %d, want %s", what, shown(got), code, shown(want))
	}
	check(t, what+" is valid", impl.ValidArray(got), true)
	checkNew(t, what, arguments, got)
}

func checkNoArray(t *testing.T, what string, got impl.Array, code, want int64) {
	t.Helper()
	checkShown(t, what, shown(got, code), shown(impl.Array{}, want))
}

// permutations returns all orders of the numbers from 0 on.
func permutations(rank int64) [][]int64 {
	if rank == 0 {
		return [][]int64{{}}
	}
	var list [][]int64
	for _, shorter := range permutations(rank - 1) {
		for i := range shorter {
			list = append(list, slices.Insert(slices.Clone(shorter), i, rank-1))
		}
		list = append(list, append(slices.Clone(shorter), rank-1))
	}
	return list
}

func roomyArray(a impl.Array) impl.Array {
	return arrayIn(roomy(a.Type), roomyList(a.Dims), a.Data)
}

func wideArray(a impl.Array) impl.Array {
	return arrayIn(widened(a.Type), wideList(a.Dims), a.Data)
}
