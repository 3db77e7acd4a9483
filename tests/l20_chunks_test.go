package tests

import (
	"math"
	"slices"
	"strings"
	"testing"

	"loop.example/g00904/impl"
)

func TestP22Constants(t *testing.T) {
	check(t, "the limits", []int64{impl.MaxChunkElements, impl.MaxGrid, impl.MaxChunks}, []int64{64, 16, 256})
	check(t, "the zero Piece", impl.Piece{}, impl.Piece{Key: 0, InChunk: nil, InData: nil})
}

// listOf returns the numbers of a text such as 5,3.
func listOf(text string) []int64 {
	var list []int64
	for _, word := range strings.FieldsFunc(text, func(c rune) bool { return c == ',' || c == ' ' }) {
		list = append(list, numberIn(word))
	}
	return list
}

// checkValidity checks what depends only on the dimensions and the chunk
// dimensions, and returns whether these are valid.
func checkValidity(t *testing.T, dims, chunk []int64) bool {
	t.Helper()
	ok := isDivision(dims, chunk)
	grid, count, keys := []int64(nil), int64(-1), []int64(nil)
	if ok {
		grid, keys = gridCounts(dims, chunk), tileKeys(tilesOf(dims, chunk))
		count = int64(len(keys))
	}
	checkShown(t, shown("the grid", dims, chunk), shown(impl.ValidChunk(dims, chunk), impl.GridOf(dims, chunk), impl.ChunkCount(dims, chunk), impl.ChunkKeys(dims, chunk)), shown(ok, grid, count, keys))
	return ok
}

// checkNoChunks checks that all functions refuse chunk dimensions.
func checkNoChunks(t *testing.T, dims, chunk []int64) {
	t.Helper()
	what := shown(dims, chunk)
	check(t, "validity of "+what, checkValidity(t, dims, chunk), false)
	key, number := impl.ChunkOf(dims, chunk, make([]int64, len(dims)))
	checkShown(t, "ChunkOf "+what, shown(key, number), shown(-1, -1))
	b, ok := impl.ChunkBox(dims, chunk, 0)
	checkShown(t, "ChunkBox "+what, shown(b, ok), shown(impl.Box{}, false))
	for _, x := range []impl.Selection{selectAll, selectNone, {}, pointsOf(make([]int64, len(dims)))} {
		list, code := impl.SplitSelection(dims, chunk, x)
		checkShown(t, "SplitSelection "+what, shown(list, code), shown([]impl.Piece(nil), impl.ErrInvalid))
	}
	checkNothingLost(t, dims, dims, chunk)
	checkNothingLost(t, slices.Repeat([]int64{1}, len(chunk)), dims, chunk)
	checkNothingLost(t, dims, slices.Repeat([]int64{1}, len(chunk)), chunk)
}

func checkNothingLost(t *testing.T, dims, fresh, chunk []int64) {
	t.Helper()
	checkShown(t, shown("ChunksLost", dims, fresh, chunk), shown(impl.ChunksLost(dims, fresh, chunk)), shown([]int64(nil)))
	for _, key := range []int64{0, 1, 16} {
		checkShown(t, shown("ElementsLost", dims, fresh, chunk, key), shown(impl.ElementsLost(dims, fresh, chunk, key)), shown([]int64(nil)))
	}
}

func TestP22EveryChunk(t *testing.T) {
	valid, invalid := 0, 0
	try := func(dims, chunk []int64) {
		if checkValidity(t, dims, chunk) {
			valid++
		} else {
			invalid++
		}
	}
	for _, dims := range everyDims(1, numbersFrom(-1, 42)) {
		for _, chunk := range everyDims(1, numbersFrom(-1, 66)) {
			try(dims, chunk)
		}
	}
	sizes := [][]int64{nil, {-1, 0, 1, 2, 15, 16, 17, 24, 25, 33, 40, 41}, {-1, 0, 1, 2, 3, 5, 15, 16, 17, 40, 41}, {0, 1, 2, 8, 9, 17, 40, 41}, {1, 16}}
	edges := [][]int64{nil, {-1, 0, 1, 2, 3, 40, 41, 64, 65}, {-1, 0, 1, 2, 3, 8, 9, 13, 32, 33, 40, 41}, {0, 1, 2, 3, 4, 5, 16, 40, 41}, {1, 2}}
	for rank := range sizes {
		for other := range edges {
			for _, dims := range everyDims(rank, sizes[rank]) {
				for i, chunk := range everyDims(other, edges[other]) {
					if rank == other || i%7 == 0 {
						try(dims, chunk)
					}
				}
			}
		}
	}
	if valid < 3000 || invalid < 10000 {
		t.Errorf("%d valid chunk dimensions and %d others", valid, invalid)
	}
}

func TestP22ChunksAtTheirLimits(t *testing.T) {
	for _, text := range []string{
		" : ", "40:40", "40:3", "0:1", "0:40", "16:1", "32:2", "33:3", "1:40", "5,3:8,8", "5,3:40,1", "5,3:1,40", "5,3:32,2", "5,3:2,32", "2,2,2:4,4,4", "2,2,2:1,2,32", "2,2,2:40,1,1",
		"16,16:1,1", "16,17:1,2", "24,25:2,2", "15,40:1,3", "8,8,4:1,1,1", "4,16,4:1,1,1", "16,16,2:1,1,2", "16,1,16:1,1,1", "0,40:1,40", "0,16:1,1", "40,0,16:40,1,1", "0,0,0:40,1,1",
	} {
		dims, chunk, _ := strings.Cut(text, ":")
		check(t, "the division "+text, checkValidity(t, listOf(dims), listOf(chunk)), true)
	}
	for _, text := range []string{
		":1", "1:", "5,3:2", "5,3:2,2,2", "5:2,2", "5,3,2:2,2", "1,1,1:1,1,1,1", "1,1,1,1:1,1,1,1", "1,1,1,1:1,1,1", "41:41", "41:40", "40:41", "0:41", "0:0", "5:0", "5:-1", "5:-2", "5:64", "5:65", "5,3:0,1", "5,3:1,0", "5,3:-2,-2", "5,3:2,-2", "5,3:-1,1",
		"5,3:5,13", "5,3:13,5", "5,3:8,9", "5,3:33,2", "5,3:40,2", "5,3:40,40", "2,2,2:4,4,5", "2,2,2:5,13,1", "2,2,2:1,1,65", "2,2,2:40,40,40", "25,25:4,4", "25,-1:4,4", "-1,25:4,4", "-1:1", "-5,-3:2,2",
		"17:1", "33:2", "34:2", "0,17:1,1", "17,0:1,1", "0,40:1,2", "17,1:1,1", "1,17:1,1", "1,1,17:1,1,1", "17,1,1:1,1,1", "1,17,1:1,1,1",
		"4,5,13:1,1,1", "16,16,2:1,1,1", "2,16,16:1,1,1", "16,2,16:1,1,1", "9,8,4:1,1,1", "8,8,8:1,1,1", "3,8,11:1,1,1",
	} {
		dims, chunk, _ := strings.Cut(text, ":")
		checkNoChunks(t, listOf(dims), listOf(chunk))
	}
}

// Products of these numbers, and sums with them, are small if they overflow.
func TestP22NumbersThatWouldOverflow(t *testing.T) {
	wide := []int64{math.MinInt64, math.MinInt64 + 1, -1 << 32, -1 << 31, 1 << 21, 1 << 22, 1 << 31, 1 << 32, 1 << 33, 1 << 62, math.MaxInt64 - 1, math.MaxInt64}
	some := append([]int64{0, 1, 4}, wide...)
	for rank := 1; rank <= 3; rank++ {
		ones := slices.Repeat([]int64{1}, rank)
		for i, list := range everyDims(rank, some) {
			if slices.ContainsFunc(list, func(n int64) bool { return slices.Contains(wide, n) }) && (rank < 3 || i%5 == 0) {
				checkNoChunks(t, ones, list)
				checkNoChunks(t, list, ones)
				checkNoChunks(t, list, list)
			}
		}
	}
}

// checkDivision checks the chunks and elements of a division.
func checkDivision(t *testing.T, dims, chunk []int64) {
	t.Helper()
	what := shown(dims, chunk)
	check(t, "validity of "+what, checkValidity(t, dims, chunk), true)
	tiles := tilesOf(dims, chunk)
	for _, x := range tiles {
		key, number := impl.ChunkOf(dims, chunk, x.at)
		checkShown(t, shown("ChunkOf", what, x.at), shown(key, number), shown(x.key, x.number))
		b, ok := impl.ChunkBox(dims, chunk, x.key)
		check(t, shown("the chunk of", what, x.at), ok && impl.InBoxes([]impl.Box{b}, x.at), true)
	}
	covered, keys := int64(0), tileKeys(tiles)
	for key := int64(-40); key < 4400; key++ {
		b, ok := impl.ChunkBox(dims, chunk, key)
		if !ok && !slices.Contains(keys, key) {
			continue
		}
		want, isKey := boxIn(tiles, key)
		checkShown(t, shown("ChunkBox", what, key), shown(b, ok), shown(want, isKey))
		covered += impl.BoxSize(b)
	}
	check(t, "elements in the chunks of "+what, covered, int64(len(tiles)))
}

func TestP22ElementsOfEveryChunk(t *testing.T) {
	for _, text := range []string{
		":", "1:1", "40:40", "40:3", "40:7", "39:3", "0:3", "16:1", "7:40", "5,3:2,2", "5,3:5,3", "5,3:8,8", "5,3:1,1", "5,3:1,3", "5,3:4,1", "16,16:1,1", "24,25:2,2", "15,40:7,9", "40,15:3,20", "0,7:4,4", "7,0:4,4", "0,0:1,1", "1,40:1,3", "40,1:3,1",
		"3,4,5:1,2,3", "3,4,5:2,2,2", "3,4,5:3,4,5", "3,4,5:4,4,4", "8,8,4:1,1,1", "8,8,8:3,3,3", "40,3,5:7,2,4", "5,40,3:2,31,1", "1,1,40:1,1,3", "0,4,5:1,1,1", "3,0,5:1,1,1", "3,4,0:1,1,1", "16,16,2:1,1,2",
	} {
		dims, chunk, _ := strings.Cut(text, ":")
		checkDivision(t, listOf(dims), listOf(chunk))
	}
	m := newTypeMaker(149)
	for range 60 {
		dims := m.drawDims()
		checkDivision(t, dims, m.drawChunk(dims))
	}
}

func TestP22WrittenChunks(t *testing.T) {
	dims, chunk := []int64{3, 5, 7}, []int64{2, 3, 4}
	checkShown(t, "the grid", shown(impl.GridOf(dims, chunk), impl.ChunkCount(dims, chunk), impl.ChunkKeys(dims, chunk)), "[[2 2 2] 8 [0 1 16 17 256 257 272 273]]")
	for key, want := range map[int64]string{
		0: "0:2,0:3,0:4", 1: "0:2,0:3,4:7", 16: "0:2,3:5,0:4", 17: "0:2,3:5,4:7", 256: "2:3,0:3,0:4", 257: "2:3,0:3,4:7", 272: "2:3,3:5,0:4", 273: "2:3,3:5,4:7",
	} {
		b, ok := impl.ChunkBox(dims, chunk, key)
		checkShown(t, shown("ChunkBox", key), shown(b, ok), shown(boxesIn(want)[0], true))
	}
	for at, want := range map[[3]int64][2]int64{
		{0, 0, 0}: {0, 0}, {1, 2, 3}: {0, 23}, {0, 0, 4}: {1, 0}, {1, 2, 6}: {1, 22}, {0, 3, 0}: {16, 0}, {1, 4, 3}: {16, 19}, {1, 4, 6}: {17, 18}, {2, 0, 0}: {256, 0}, {2, 4, 6}: {273, 6}, {2, 3, 5}: {273, 1},
	} {
		key, number := impl.ChunkOf(dims, chunk, at[:])
		checkShown(t, shown("ChunkOf", at), shown(key, number), shown(want[0], want[1]))
	}
	b, ok := impl.ChunkBox(nil, nil, 0)
	checkShown(t, "the only chunk of rank 0", shown(b, ok), shown(impl.Box{}, true))
	key, number := impl.ChunkOf(nil, nil, nil)
	checkShown(t, "the only element of rank 0", shown(key, number), shown(0, 0))
	key, number = impl.ChunkOf([]int64{16, 1, 16}, []int64{1, 1, 1}, []int64{15, 0, 15})
	checkShown(t, "the greatest key", shown(key, number), shown(256*15+15, 0))
}

func TestP22KeysOfNoChunk(t *testing.T) {
	for _, text := range []string{":", "5:2", "40:3", "0:3", "5,3:2,2", "16,16:1,1", "0,3:1,1", "3,0:1,1", "3,4,5:2,2,2", "16,1,16:1,1,1", "1,1,16:1,1,1", "0,1,1:1,1,1", "1,1,0:1,1,1"} {
		dimsText, chunkText, _ := strings.Cut(text, ":")
		dims, chunk := listOf(dimsText), listOf(chunkText)
		keys := tileKeys(tilesOf(dims, chunk))
		for _, key := range append(oddNumbers(), numbersFrom(-5000, 5000)...) {
			if slices.Contains(keys, key) {
				continue
			}
			b, ok := impl.ChunkBox(dims, chunk, key)
			lost := impl.ElementsLost(dims, slices.Repeat([]int64{1}, len(dims)), chunk, key)
			if ok || len(b.Low) > 0 || len(b.High) > 0 || len(lost) > 0 {
				t.Errorf("key %d of %s: %v, %v, %v", key, text, b, ok, lost)
			}
		}
	}
}

func TestP22ElementsThatThereAreNot(t *testing.T) {
	for _, text := range []string{":", "5:2", "0:3", "40:3", "5,3:2,2", "5,3:8,8", "0,3:1,1", "3,0:1,1", "3,4,5:2,2,2", "3,4,5:4,4,4", "3,0,5:1,1,1"} {
		dimsText, chunkText, _ := strings.Cut(text, ":")
		dims, chunk := listOf(dimsText), listOf(chunkText)
		tiles := tilesOf(dims, chunk)
		try := func(at []int64) {
			want, _ := tileAt(tiles, at)
			key, number := impl.ChunkOf(dims, chunk, at)
			checkShown(t, shown("ChunkOf", text, at), shown(key, number), shown(want.key, want.number))
		}
		for _, at := range oddLists() {
			try(at)
		}
		for rank := range 5 {
			for _, at := range everyDims(rank, []int64{-1, 0, 2, 3, 4, 5, 40}) {
				try(at)
			}
		}
	}
}

// The numbers of the elements in a chunk at the edge are those in a whole one.
func TestP22NumbersAtTheEdge(t *testing.T) {
	m := newTypeMaker(150)
	for range 2000 {
		dims, chunk, at := m.drawTile()
		whole := slices.Clone(dims)
		for i, n := range chunk {
			whole[i] = (dims[i] + n - 1) / n * n
		}
		if !isDivision(whole, chunk) {
			continue
		}
		key, number := impl.ChunkOf(dims, chunk, at)
		wholeKey, wholeNumber := impl.ChunkOf(whole, chunk, at)
		checkShown(t, shown("ChunkOf", dims, chunk, at), shown(key, number), shown(wholeKey, wholeNumber))
		b, ok := impl.ChunkBox(whole, chunk, key)
		check(t, shown("elements of a whole chunk", whole, chunk, key), ok && impl.BoxSize(b) == impl.ElementsOf(chunk), true)
	}
}

func TestP22KeysDoNotDependOnTheDimensions(t *testing.T) {
	m := newTypeMaker(151)
	for range 2000 {
		dims, chunk, at := m.drawTile()
		fresh := m.drawFresh(dims, chunk)
		key, number := impl.ChunkOf(dims, chunk, at)
		freshKey, freshNumber := impl.ChunkOf(fresh, chunk, at)
		if impl.IndexOf(fresh, at) < 0 {
			key, number = -1, -1
		}
		checkShown(t, shown("ChunkOf", dims, fresh, chunk, at), shown(freshKey, freshNumber), shown(key, number))
	}
}

func TestP22WrittenPieces(t *testing.T) {
	dims, chunk := []int64{5, 3}, []int64{2, 2}
	for text, want := range map[string]string{
		"all":                         "0=0,1,2,3@0,1,3,4 1=0,2@2,5 16=0,1,2,3@6,7,9,10 17=0,2@8,11 32=0,1@12,13 33=0@14",
		"none":                        "",
		"slab(4,2;1,1;1,1;1,1)":       "33=0@0",
		"slab(0,0;1,1;1,1;5,3)":       "",
		"slab(1,1;2,1;2,1;1,1)":       "0=3@0 16=3@1",
		"slab(0,2;3,1;2,1;1,1)":       "1=0@0 17=2@1",
		"points(4,2)":                 "33=0@0",
		"points(4,2;4,2;4,2)":         "33=0,0,0@0,1,2",
		"points(1,1;0,0;1,0;0,1)":     "0=3,0,2,1@0,1,2,3",
		"points(4,2;0,0;3,2;1,1)":     "0=0,3@1,3 17=2@2 33=0@0",
		"points(2,0;0,2;2,0;4,0)":     "1=0@1 16=0,0@0,2 32=0@3",
		"slab(0,0;2,2;3,2;1,1)":       "0=0@0 1=0@1 16=0@2 17=0@3 32=0@4 33=0@5",
		"slab(3,0;1,1;1,3;1,1)":       "16=2,3@0,1 17=2@2",
		"slab(0,0;5,3;1,1;5,3)":       "0=0,1,2,3@0,1,3,4 1=0,2@2,5 16=0,1,2,3@6,7,9,10 17=0,2@8,11 32=0,1@12,13 33=0@14",
		"points(0,0;2,0;0,1;2,1;4,2)": "0=0,1@0,2 16=0,1@1,3 33=0@4",
	} {
		x, ok := impl.ReadSelection(text)
		list, code := impl.SplitSelection(dims, chunk, x)
		if !ok {
			checkShown(t, "a selection that is not well-formed", shown(list, code), shown([]impl.Piece(nil), impl.ErrRange))
			continue
		}
		checkShown(t, "SplitSelection of "+text, shown(list, code), shown(piecesOf(want), impl.OK))
	}
}

// piecesOf returns the pieces of a text such as 0=0,1@1,3 33=0@0.
func piecesOf(text string) []impl.Piece {
	var list []impl.Piece
	for _, word := range strings.Fields(text) {
		key, lists, _ := strings.Cut(word, "=")
		inChunk, inData, _ := strings.Cut(lists, "@")
		list = append(list, impl.Piece{Key: numberIn(key), InChunk: listOf(inChunk), InData: listOf(inData)})
	}
	return list
}

// TestP22EverySelectedElementIsInOnePiece uses no second implementation.
func TestP22EverySelectedElementIsInOnePiece(t *testing.T) {
	m := newTypeMaker(152)
	for range 1500 {
		dims := m.drawDims()
		chunk, x := m.drawChunk(dims), m.drawSelection(dims)
		list, code := impl.SplitSelection(dims, chunk, x)
		check(t, "code", code, int64(impl.OK))
		selected := impl.SelectedIndices(dims, x)
		pieces := make([]int, len(selected))
		for i, piece := range list {
			if i > 0 && list[i-1].Key >= piece.Key || len(piece.InData) == 0 || len(piece.InChunk) != len(piece.InData) || !slices.IsSorted(piece.InData) {
				t.Fatalf("pieces of %v in %v, %v: %v", x, dims, chunk, list)
			}
			for k, position := range piece.InData {
				pieces[position]++
				key, number := impl.ChunkOf(dims, chunk, impl.CoordsOf(dims, selected[position]))
				checkShown(t, shown("the chunk of a selected element", dims, chunk, x, position), shown(piece.Key, piece.InChunk[k]), shown(key, number))
			}
		}
		check(t, "pieces of each selected element", pieces, slices.Repeat([]int{1}, len(selected)))
	}
}

func TestP22DrawnPieces(t *testing.T) {
	m := newTypeMaker(153)
	several, kinds := 0, map[int64]int{}
	for range 600 {
		dims := m.drawDims()
		chunk := m.drawChunk(dims)
		x := m.drawSelection(dims)
		if m.IntN(5) == 0 {
			x = m.drawPattern(dims)
		}
		if list, code := checkSplit(t, dims, chunk, x); code == impl.OK && len(list) > 1 {
			several++
			kinds[x.Kind]++
		}
	}
	if several < 150 || len(kinds) < 3 {
		t.Errorf("%d selections in several chunks, of the kinds %v", several, kinds)
	}
}

func TestP22SelectionsThatAreNotValid(t *testing.T) {
	dims, chunk := []int64{5, 3}, []int64{2, 2}
	list := append(illFormed(),
		pointsOf([]int64{5, 0}), pointsOf([]int64{0, 3}), pointsOf([]int64{0, 0}, []int64{4, 3}), pointsOf([]int64{0}), pointsOf([]int64{0, 0, 0}), pointsOf([]int64{}), pointsOf([]int64{-1, 0}), pointsOf([]int64{39, 39}),
		slabOfOne(0, 1, 1, 1), slabOf(nil, nil, nil, nil), slabOf([]int64{5, 0}, []int64{1, 1}, []int64{1, 1}, []int64{1, 1}), slabOf([]int64{0, 2}, []int64{1, 2}, []int64{1, 1}, []int64{1, 2}), slabOf([]int64{1, 0}, []int64{2, 1}, []int64{3, 1}, []int64{1, 1}),
	)
	for _, x := range list {
		_, code := checkSplit(t, dims, chunk, x)
		check(t, shown("code", x), code, int64(impl.ErrRange))
		for _, bad := range [][]int64{nil, {2}, {0, 2}, {2, 2, 2}, {8, 9}} {
			_, code := checkSplit(t, dims, bad, x)
			check(t, shown("code", bad, x), code, int64(impl.ErrInvalid))
		}
		_, code = checkSplit(t, []int64{25, 25}, chunk, x)
		check(t, "code for invalid dimensions", code, int64(impl.ErrInvalid))
	}
	for rank := range 4 {
		small := slices.Repeat([]int64{2}, rank)
		for other := range 4 {
			point := make([]int64, other)
			ones := slices.Repeat([]int64{1}, other)
			for _, x := range []impl.Selection{pointsOf(point), slabOf(point, ones, ones, ones)} {
				_, code := checkSplit(t, small, small, x)
				check(t, shown("code of rank", rank, other), code == impl.OK, rank == other)
			}
		}
	}
}

func TestP22SelectionsInEmptyArrays(t *testing.T) {
	for _, dims := range [][]int64{{0}, {0, 7}, {7, 0}, {0, 0}, {0, 3, 5}, {3, 0, 5}, {3, 5, 0}} {
		chunk, zeros, ones := slices.Repeat([]int64{4}, len(dims)), make([]int64, len(dims)), slices.Repeat([]int64{1}, len(dims))
		for _, x := range []impl.Selection{selectAll, selectNone} {
			list, code := checkSplit(t, dims, chunk, x)
			checkShown(t, "no pieces", shown(list, code), shown([]impl.Piece(nil), impl.OK))
		}
		for _, x := range []impl.Selection{pointsOf(zeros), slabOf(zeros, ones, ones, ones)} {
			_, code := checkSplit(t, dims, chunk, x)
			check(t, "code", code, int64(impl.ErrRange))
		}
	}
}

// checkLost checks what a change of the dimensions loses.
func checkLost(t *testing.T, dims, fresh, chunk []int64) {
	t.Helper()
	before, after := tilesOf(dims, chunk), tilesOf(fresh, chunk)
	keys, numbers := lostIn(before, after)
	checkShown(t, shown("ChunksLost", dims, fresh, chunk), shown(impl.ChunksLost(dims, fresh, chunk)), shown(keys))
	for _, key := range append(numbersFrom(-1, 40), tileKeys(before)...) {
		checkShown(t, shown("ElementsLost", dims, fresh, chunk, key), shown(impl.ElementsLost(dims, fresh, chunk, key)), shown(numbers[key]))
	}
}

func TestP22EveryChangeOfRankOne(t *testing.T) {
	sizes := numbersFrom(0, 12)
	for _, n := range sizes {
		for _, fresh := range sizes {
			for _, chunk := range numbersFrom(1, 13) {
				checkLost(t, []int64{n}, []int64{fresh}, []int64{chunk})
			}
		}
	}
}

func TestP22EveryChangeOfRankTwo(t *testing.T) {
	all := everyDims(2, numbersFrom(0, 4))
	for _, dims := range all {
		for _, fresh := range all {
			for _, chunk := range everyDims(2, []int64{1, 2, 3, 5}) {
				checkLost(t, dims, fresh, chunk)
			}
		}
	}
}

func TestP22WrittenLosses(t *testing.T) {
	dims, chunk := []int64{5, 3}, []int64{2, 2}
	for text, want := range map[string]string{
		"5,3": "||||", "6,4": "||||", "5,2": "1,17,33||0,2|0,2|", "4,3": "32,33||||0,1", "3,2": "1,17,32,33||0,2|0,2|0,1", "3,1": "1,17,32,33|1,3|0,2|0,2|0,1", "0,3": "0,1,16,17,32,33|0,1,2,3|0,2|0,2|0,1",
		"5,0": "0,1,16,17,32,33|0,1,2,3|0,2|0,2|0,1", "0,0": "0,1,16,17,32,33|0,1,2,3|0,2|0,2|0,1", "9,1": "1,17,33|1,3|0,2|0,2|1", "1,9": "16,17,32,33|2,3|2|0,2|0,1", "40,1": "", "5,3,1": "", "5": "", "": "", "25,25": "", "-1,3": "", "5,41": "", "33,3": "",
	} {
		fresh := listOf(text)
		lists := strings.Split(want+"||||", "|")
		checkShown(t, "ChunksLost "+text, shown(impl.ChunksLost(dims, fresh, chunk)), shown(listOf(lists[0])))
		for i, key := range []int64{0, 1, 17, 32} {
			checkShown(t, shown("ElementsLost", text, key), shown(impl.ElementsLost(dims, fresh, chunk, key)), shown(listOf(lists[i+1])))
		}
		for _, key := range []int64{-1, 2, 15, 18, 34, 48, 256, 273, math.MaxInt64, math.MinInt64} {
			checkShown(t, shown("ElementsLost", text, key), shown(impl.ElementsLost(dims, fresh, chunk, key)), shown([]int64(nil)))
		}
	}
	checkShown(t, "a change of rank 0", shown(impl.ChunksLost(nil, nil, nil), impl.ElementsLost(nil, nil, nil, 0)), "[[] []]")
}

func TestP22DrawnChanges(t *testing.T) {
	m := newTypeMaker(154)
	changes := map[string]int{}
	for range 800 {
		dims := m.drawDims()
		chunk := m.drawChunk(dims)
		fresh := m.drawFresh(dims, chunk)
		checkLost(t, dims, fresh, chunk)
		for i, n := range dims {
			switch {
			case fresh[i] < n:
				changes["shrunk"]++
			case fresh[i] > n:
				changes["grown"]++
			default:
				changes["kept"]++
			}
		}
	}
	for what, count := range changes {
		if count < 200 {
			t.Errorf("%d dimensions are %s", count, what)
		}
	}
}

// TestP22ChangesLoseExactlyWhatIsGone uses no second implementation.
func TestP22ChangesLoseExactlyWhatIsGone(t *testing.T) {
	m := newTypeMaker(155)
	for range 600 {
		dims := m.drawDims()
		chunk := m.drawChunk(dims)
		fresh := m.drawFresh(dims, chunk)
		gone := impl.ChunksLost(dims, fresh, chunk)
		lost := map[[2]int64]bool{}
		for _, key := range impl.ChunkKeys(dims, chunk) {
			numbers := impl.ElementsLost(dims, fresh, chunk, key)
			for _, number := range numbers {
				lost[[2]int64{key, number}] = true
			}
			b, _ := impl.ChunkBox(dims, chunk, key)
			_, still := impl.ChunkBox(fresh, chunk, key)
			check(t, shown("a lost chunk", dims, fresh, chunk, key), slices.Contains(gone, key), !still)
			if !still {
				check(t, shown("elements of a lost chunk", dims, fresh, chunk, key), int64(len(numbers)), impl.BoxSize(b))
			}
		}
		for _, at := range rowMajor(dims) {
			key, number := impl.ChunkOf(dims, chunk, at)
			check(t, shown("a lost element", dims, fresh, chunk, at), lost[[2]int64{key, number}], impl.IndexOf(fresh, at) < 0)
			delete(lost, [2]int64{key, number})
		}
		check(t, shown("lost elements that never were", dims, fresh, chunk), len(lost), 0)
	}
}

func chunkResults(dims, fresh, chunk, at []int64, key int64, x impl.Selection) []any {
	found, number := impl.ChunkOf(dims, chunk, at)
	b, ok := impl.ChunkBox(dims, chunk, key)
	list, code := impl.SplitSelection(dims, chunk, x)
	return []any{impl.ValidChunk(dims, chunk), impl.GridOf(dims, chunk), impl.ChunkCount(dims, chunk), impl.ChunkKeys(dims, chunk), found, number, b, ok, list, code,
		impl.ChunksLost(dims, fresh, chunk), impl.ElementsLost(dims, fresh, chunk, key)}
}

func TestP1ChunksReturnForAllArguments(t *testing.T) {
	lists, numbers, selections := append(oddLists(), []int64{5, 3}, []int64{2, 2}, []int64{4}), oddNumbers(), append(illFormed(), selectAll, selectNone, pointsOf([]int64{0}))
	for i, a := range lists {
		for _, j := range []int{0, i, len(lists) - 1, len(lists) - 1 - i} {
			b, key, x := lists[j], numbers[i%len(numbers)], selections[(i+j)%len(selections)]
			for k, args := range [][4][]int64{{a, b, b, a}, {a, a, b, b}, {b, a, a, b}, {b, b, b, a}} {
				first := shown(chunkResults(args[0], args[1], args[2], args[3], key, x)...)
				second := shown(chunkResults(roomyList(args[0]), roomyList(args[1]), roomyList(args[2]), roomyList(args[3]), key, roomySelection(x))...)
				checkShown(t, shown("second call", i, j, k), second, first)
			}
		}
	}
}

func TestP1ChunksAreNotModified(t *testing.T) {
	m := newTypeMaker(156)
	for range 1500 {
		dims := roomyList(m.drawDims())
		chunk := roomyList(m.drawChunk(dims))
		fresh, at, x := roomyList(m.drawFresh(dims, chunk)), roomyList(make([]int64, len(dims))), roomySelection(m.drawSelection(dims))
		key := int64(0)
		if keys := impl.ChunkKeys(dims, chunk); len(keys) > 0 {
			key = keys[m.IntN(len(keys))]
		}
		before := shown(wideList(dims), wideList(chunk), wideList(fresh), wideList(at), wideSelection(x))
		results := chunkResults(dims, fresh, chunk, at, key, x)
		checkNew(t, "results", []any{dims, chunk, fresh, at, x}, results...)
		checkShown(t, "second call", shown(chunkResults(dims, fresh, chunk, at, key, x)...), shown(results...))
		checkShown(t, "arguments after the calls", shown(wideList(dims), wideList(chunk), wideList(fresh), wideList(at), wideSelection(x)), before)
	}
}
