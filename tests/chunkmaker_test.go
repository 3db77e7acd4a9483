package tests

import (
	"slices"
	"testing"

	"loop.example/g00904/impl"
)

// gridCounts counts, in each dimension, the coordinates at which a chunk begins.
func gridCounts(dims, chunk []int64) []int64 {
	counts := make([]int64, len(dims))
	for i, n := range dims {
		for at := int64(0); at < n; at += chunk[i] {
			counts[i]++
		}
	}
	return counts
}

// isDivision tells what impl.ValidChunk should tell.
func isDivision(dims, chunk []int64) bool {
	if !isDims(dims) || len(chunk) != len(dims) {
		return false
	}
	elements, count := int64(1), int64(1)
	for _, n := range chunk {
		if !isBetween(1, n, 40) {
			return false
		}
		elements *= n
	}
	for _, n := range gridCounts(dims, chunk) {
		if n > 16 {
			return false
		}
		count *= n
	}
	return elements <= 64 && count <= 256
}

// tile is an element with the key of its chunk and its number in the chunk.
type tile struct {
	at          []int64
	key, number int64
}

// tilesOf returns all elements in row-major order, each with its chunk.
func tilesOf(dims, chunk []int64) []tile {
	var list []tile
	numbered := rowMajor(chunk)
	for _, at := range rowMajor(dims) {
		p, rest := make([]int64, len(at)), make([]int64, len(at))
		for i, n := range chunk {
			p[i], rest[i] = at[i]/n, at[i]%n
		}
		x := tile{at: at}
		switch len(p) {
		case 1:
			x.key = p[0]
		case 2:
			x.key = 16*p[0] + p[1]
		case 3:
			x.key = 256*p[0] + 16*p[1] + p[2]
		}
		x.number = int64(slices.IndexFunc(numbered, func(r []int64) bool { return slices.Equal(r, rest) }))
		list = append(list, x)
	}
	return list
}

func tileKeys(tiles []tile) []int64 {
	var keys []int64
	for _, x := range tiles {
		keys = append(keys, x.key)
	}
	slices.Sort(keys)
	return slices.Compact(keys)
}

// boxIn returns the bounds of the elements of a chunk.
func boxIn(tiles []tile, key int64) (b impl.Box, ok bool) {
	for _, x := range tiles {
		if x.key != key {
			continue
		}
		if !ok {
			b, ok = boxOf(slices.Clone(x.at), slices.Clone(x.at)), true
		}
		for i, c := range x.at {
			b.Low[i], b.High[i] = min(b.Low[i], c), max(b.High[i], c+1)
		}
	}
	return b, ok
}

func tileAt(tiles []tile, at []int64) (tile, bool) {
	i := slices.IndexFunc(tiles, func(x tile) bool { return slices.Equal(x.at, at) })
	if i < 0 {
		return tile{key: -1, number: -1}, false
	}
	return tiles[i], true
}

// piecesIn returns the pieces of a selection of some elements.
func piecesIn(tiles []tile, selected [][]int64) []impl.Piece {
	var list []impl.Piece
	for _, key := range tileKeys(tiles) {
		piece := impl.Piece{Key: key}
		for i, at := range selected {
			if x, _ := tileAt(tiles, at); x.key == key {
				piece.InChunk, piece.InData = append(piece.InChunk, x.number), append(piece.InData, int64(i))
			}
		}
		if len(piece.InData) > 0 {
			list = append(list, piece)
		}
	}
	return list
}

// splitOf tells what impl.SplitSelection should return.
func splitOf(dims, chunk []int64, x impl.Selection) ([]impl.Piece, int64) {
	if !isDivision(dims, chunk) {
		return nil, impl.ErrInvalid
	}
	if !isFormed(x) {
		return nil, impl.ErrRange
	}
	selected, ok := selectedOf(dims, x)
	if !ok {
		return nil, impl.ErrRange
	}
	return piecesIn(tilesOf(dims, chunk), selected), impl.OK
}

// lostIn returns the keys of the chunks that have no element any more, and the
// numbers of the lost elements of each chunk.
func lostIn(before, after []tile) (keys []int64, numbers map[int64][]int64) {
	still := tileKeys(after)
	for _, key := range tileKeys(before) {
		if !slices.Contains(still, key) {
			keys = append(keys, key)
		}
	}
	numbers = map[int64][]int64{}
	for _, x := range before {
		if _, ok := tileAt(after, x.at); !ok {
			numbers[x.key] = append(numbers[x.key], x.number)
		}
	}
	for _, list := range numbers {
		slices.Sort(list)
	}
	return keys, numbers
}

// drawChunk returns chunk dimensions that are valid for dimensions.
func (m typeMaker) drawChunk(dims []int64) []int64 {
	for {
		chunk := make([]int64, len(dims))
		for i, n := range dims {
			chunk[i] = m.between(1, []int64{2, 4, 8, 40, max(n, 1)}[m.IntN(5)])
		}
		if isDivision(dims, chunk) {
			return chunk
		}
	}
}

// drawTile returns dimensions, valid chunk dimensions, and the coordinates of an
// element.
func (m typeMaker) drawTile() (dims, chunk, at []int64) {
	dims = m.drawDims()
	if slices.Contains(dims, 0) {
		return m.drawTile()
	}
	return dims, m.drawChunk(dims), m.drawCoords(dims)
}

// drawFresh returns dimensions of the same rank, for which chunk dimensions are
// valid too.
func (m typeMaker) drawFresh(dims, chunk []int64) []int64 {
	for {
		fresh := slices.Clone(dims)
		for i, n := range dims {
			fresh[i] = []int64{n, m.between(0, n), m.between(n, 40), m.between(0, 40), m.between(max(0, n-3), min(40, n+3))}[m.IntN(5)]
		}
		if isDivision(fresh, chunk) {
			return fresh
		}
	}
}

func checkSplit(t *testing.T, dims, chunk []int64, x impl.Selection) ([]impl.Piece, int64) {
	t.Helper()
	list, code := impl.SplitSelection(dims, chunk, x)
	want, wantCode := splitOf(dims, chunk, x)
	checkShown(t, shown("SplitSelection", dims, chunk, x), shown(list, code), shown(want, wantCode))
	return list, code
}
