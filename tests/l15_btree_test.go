package tests

import (
	"maps"
	"math"
	"slices"
	"strconv"
	"strings"
	"testing"

	"loop.example/g00904/impl"
)

func TestP16Constants(t *testing.T) {
	check(t, "limits of nodes", []int{impl.MaxKey, impl.MaxLeaf, impl.MaxInner, impl.MaxMask, impl.MaxIndexDepth}, []int{65535, 8, 7, 255, 8})
}

// chunkCases are chunks at the limits of each field, and whether they are valid.
func chunkCases() map[impl.Chunk]bool {
	cases := map[impl.Chunk]bool{{}: false, chunkAt(0, 1, 0, 0): true, chunkAt(65535, 255, 65535, 255): true, chunkAt(65536, 256, 65536, 256): false, chunkAt(-1, -1, -1, -1): false}
	for n, inKey := range map[int64]bool{math.MinInt64: false, -1: false, 0: true, 1: true, 255: true, 256: true, 65535: true, 65536: false, 65537: false, 65536 * 65536: false, math.MaxInt64: false} {
		cases[chunkAt(n, 40, 100, 7)] = inKey
		cases[chunkAt(3, n, 100, 7)] = isBetween(1, n, 255)
		cases[chunkAt(3, 40, n, 7)] = inKey
		cases[chunkAt(3, 40, 100, n)] = isBetween(0, n, 255)
	}
	for _, n := range []int64{254, 257, 511, 512, 256 + 40, 65534} {
		cases[chunkAt(n, 40, 100, 7)] = true
		cases[chunkAt(3, n, 100, 7)] = n == 254
		cases[chunkAt(3, 40, n, 7)] = true
		cases[chunkAt(3, 40, 100, n)] = n == 254
	}
	return cases
}

func TestP16ChunksAtTheirLimits(t *testing.T) {
	p, root, _ := impl.NewIndex(emptyStore(t, 40, 12))
	p, root, _ = impl.InsertChunk(p, root, chunkOf(9))
	for c, want := range chunkCases() {
		check(t, shown("ValidNode", c), []bool{impl.ValidNode(leafOf(c)), isChunk(c)}, []bool{want, want})
		checkNode(t, leafOf(c))
		checkNode(t, leafOf(chunkAt(2, 40, 100, 7), c))
		checkNode(t, leafOf(c, chunkAt(4, 40, 100, 7)))
		wantCode := int64(impl.OK)
		if !want {
			wantCode = impl.ErrInvalid
		}
		after, top, code := checkInsert(t, "limits", p, root, c)
		check(t, shown("InsertChunk", c), code, wantCode)
		if want {
			got, ok, code := impl.FindChunk(after, top, c.Key)
			check(t, shown("FindChunk", c), []any{got, ok, code}, []any{c, true, int64(impl.OK)})
		}
	}
}

// checkNode checks the functions of a node, which need not be valid.
func checkNode(t *testing.T, n impl.Node) {
	t.Helper()
	want := ""
	if isNode(n) {
		want = blockOfNode(n)
	}
	block := impl.EncodeNode(n)
	check(t, shown("block of", n), []any{impl.ValidNode(n), block}, []any{isNode(n), want})
	if isNode(n) {
		back, ok := impl.DecodeNode(block)
		check(t, shown("DecodeNode of the block of", n), []bool{ok, sameNodes(back, n)}, []bool{true, true})
		checkNew(t, "DecodeNode", []any{n}, back)
	}
}

func goodNodes() []impl.Node {
	list := []impl.Node{
		leafOf(), leafOf(chunkAt(0, 1, 0, 0)), leafOf(chunkAt(65535, 255, 65535, 255)), leafOf(chunkOf(0), chunkOf(1)), leafOf(chunksOf(1, 2, 3, 4, 5, 6, 7, 65535)...), leafOf(chunkAt(1, 7, 7, 7), chunkAt(2, 7, 7, 7)),
		innerOf([]int64{0}, []int64{1, 255}), innerOf([]int64{65535}, []int64{255, 1}), innerOf([]int64{7}, []int64{9, 9}), innerOf([]int64{0, 65535}, []int64{1, 2, 3}), innerOf([]int64{256, 512}, []int64{8, 7, 6}),
	}
	for count := int64(1); count <= 8; count++ {
		list = append(list, leafOf(chunksOf(numbersFrom(1, count)...)...), leafOf(chunksOf(numbersFrom(65536-count, 65535)...)...))
	}
	for count := int64(1); count <= 7; count++ {
		list = append(list, innerOf(numbersFrom(0, count-1), numbersFrom(1, count+1)), innerOf(numbersFrom(65536-count, 65535), numbersFrom(255-count, 255)))
	}
	return list
}

func badNodes() []impl.Node {
	list := []impl.Node{
		{}, innerOf(nil, []int64{5}), innerOf(nil, []int64{5, 6}), innerOf([]int64{5}, nil), innerOf([]int64{5}, []int64{5}), innerOf([]int64{5}, []int64{5, 6, 7}), innerOf([]int64{5, 6}, []int64{5, 6}), innerOf([]int64{5, 6}, []int64{5, 6, 7, 8}),
		innerOf(numbersFrom(1, 8), numbersFrom(1, 9)), innerOf(numbersFrom(1, 8), numbersFrom(1, 8)), innerOf(numbersFrom(1, 7), numbersFrom(1, 7)), innerOf(numbersFrom(1, 7), numbersFrom(1, 9)), innerOf(numbersFrom(1, 256), numbersFrom(1, 257)), innerOf(numbersFrom(0, 300), slices.Repeat([]int64{1}, 302)),
		innerOf([]int64{5, 5}, []int64{1, 2, 3}), innerOf([]int64{6, 5}, []int64{1, 2, 3}), innerOf([]int64{1, 5, 5}, []int64{1, 2, 3, 4}), innerOf([]int64{1, 5, 4}, []int64{1, 2, 3, 4}), innerOf([]int64{2, 1, 5}, []int64{1, 2, 3, 4}),
		leafOf(chunksOf(numbersFrom(1, 9)...)...), leafOf(chunksOf(numbersFrom(1, 257)...)...), leafOf(chunksOf(numbersFrom(1, 300)...)...), leafOf(chunkOf(5), chunkOf(5)), leafOf(chunkOf(6), chunkOf(5)), leafOf(chunkAt(5, 1, 1, 1), chunkAt(5, 2, 2, 2)), leafOf(chunksOf(1, 2, 2)...), leafOf(chunksOf(1, 3, 2)...), leafOf(chunksOf(2, 1, 3)...), leafOf(chunksOf(8, 7, 6, 5, 4, 3, 2, 1)...),
		// Fields that must be empty.
		{Leaf: true, Keys: []int64{5}}, {Leaf: true, Kids: []int64{5}}, {Leaf: true, Keys: []int64{5}, Kids: []int64{5, 6}}, {Leaf: true, Chunks: chunksOf(1), Keys: []int64{5}}, {Leaf: true, Chunks: chunksOf(1), Kids: []int64{5}}, {Chunks: chunksOf(1)}, {Chunks: chunksOf(1), Keys: []int64{5}, Kids: []int64{5, 6}}, {Chunks: chunksOf(1), Kids: []int64{5}}, {Chunks: chunksOf(1), Keys: []int64{5}},
	}
	for _, k := range []int64{-1, 65536, 65537, -65536, math.MinInt64, math.MaxInt64} {
		list = append(list, innerOf([]int64{k}, []int64{5, 6}), innerOf([]int64{min(k, 3), max(k, 3)}, []int64{5, 6, 7}), innerOf([]int64{max(k, 3), min(k, 3)}, []int64{5, 6, 7}))
	}
	for _, k := range []int64{0, -1, 256, 257, 65536, 65541, math.MinInt64, math.MaxInt64} {
		list = append(list, innerOf([]int64{5}, []int64{k, 6}), innerOf([]int64{5}, []int64{6, k}), innerOf([]int64{5, 6}, []int64{7, k, 8}))
	}
	return list
}

func TestP16NodesAreRestored(t *testing.T) {
	for _, n := range goodNodes() {
		check(t, shown("ValidNode", n), []bool{impl.ValidNode(n), isNode(n)}, []bool{true, true})
		checkNode(t, n)
	}
	m := newTypeMaker(111)
	valid := 0
	for range 5000 {
		n := impl.Node{Leaf: m.IntN(2) == 0}
		for range m.IntN(9) {
			n.Chunks = append(n.Chunks, chunkAt(m.between(0, 65535), m.between(1, 255), m.between(0, 65535), m.between(0, 255)))
			n.Keys = append(n.Keys, m.between(0, 65535))
			n.Kids = append(n.Kids, m.between(1, 255))
		}
		n.Kids = append(n.Kids, m.between(1, 255))
		slices.SortFunc(n.Chunks, func(a, b impl.Chunk) int { return int(a.Key - b.Key) })
		slices.Sort(n.Keys)
		if n.Leaf {
			n.Keys, n.Kids = nil, nil
		} else {
			n.Chunks = nil
		}
		checkNode(t, n)
		if isNode(n) {
			valid++
		}
	}
	if valid < 3000 {
		t.Errorf("too few valid nodes: %d", valid)
	}
}

func TestP16NodesThatAreNotValid(t *testing.T) {
	for _, n := range badNodes() {
		check(t, shown("ValidNode", n), []bool{impl.ValidNode(n), isNode(n)}, []bool{false, false})
		checkNode(t, n)
	}
}

func TestP16WrittenBlocks(t *testing.T) {
	zeros := blockOf("\x00")
	for block, n := range map[string]impl.Node{
		"\x01\x00":                             leafOf(),
		"\x01\x01\x03\x00\x28\x00\x64\x00\x01": leafOf(chunkAt(3, 40, 100, 1)),
		"\x01\x02\x00\x00\x01\x00\x00\x00\x00\xff\xff\xff\x00\xff\xff\xff": leafOf(chunkAt(0, 1, 0, 0), chunkAt(65535, 255, 65535, 255)),
		"\x02\x01\x0c\x00\x0d\x00\x07\x00":                                 innerOf([]int64{7}, []int64{12, 13}),
		"\x02\x02\xff\x00\x01\x00\x14\x00\x00\x01\xff\xff":                 innerOf([]int64{256, 65535}, []int64{255, 1, 20}),
		"\x02\x07\x01\x00\x02\x00\x03\x00\x04\x00\x05\x00\x06\x00\x07\x00\x08\x00\x0b\x00\x0c\x00\x0d\x00\x0e\x00\x0f\x00\x10\x00\x11\x00":                                                                                                                                                 innerOf(numbersFrom(11, 17), numbersFrom(1, 8)),
		"\x01\x08" + "\x01\x00\x02\x00\x03\x00\x04" + "\x02\x00\x02\x00\x03\x00\x04" + "\x03\x00\x02\x00\x03\x00\x04" + "\x04\x00\x02\x00\x03\x00\x04" + "\x05\x00\x02\x00\x03\x00\x04" + "\x06\x00\x02\x00\x03\x00\x04" + "\x07\x00\x02\x00\x03\x00\x04" + "\x08\x00\x02\x00\x03\x00\x04": leafOf(chunkAt(1, 2, 3, 4), chunkAt(2, 2, 3, 4), chunkAt(3, 2, 3, 4), chunkAt(4, 2, 3, 4), chunkAt(5, 2, 3, 4), chunkAt(6, 2, 3, 4), chunkAt(7, 2, 3, 4), chunkAt(8, 2, 3, 4)),
	} {
		block += zeros[len(block):]
		check(t, shown("EncodeNode", n), impl.EncodeNode(n), block)
		got, ok := impl.DecodeNode(block)
		checkValues(t, shown("DecodeNode", n), []any{got, ok}, []any{n, true})
	}
}

func checkDecodeNode(t *testing.T, block string) bool {
	t.Helper()
	want, wantOk := nodeFrom(block)
	n, ok := impl.DecodeNode(block)
	if ok != wantOk || !sameNodes(n, want) {
		t.Errorf("DecodeNode of %q: got %v and %v, want %v and %v", block, n, ok, want, wantOk)
	}
	return ok
}

func TestP16BlocksThatAreNotValid(t *testing.T) {
	leaf, inner := blockOfNode(leafOf(chunksOf(1, 2, 3)...)), blockOfNode(innerOf([]int64{5, 6}, []int64{7, 8, 9}))
	full, fullInner := blockOfNode(leafOf(chunksOf(numbersFrom(1, 8)...)...)), blockOfNode(innerOf(numbersFrom(1, 7), numbersFrom(11, 18)))
	for what, block := range map[string]string{
		"no byte": "", "zero bytes": blockOf("\x00"), "ones": blockOf("\x01"), "twos": blockOf("\x02"), "all bits": blockOf("\xff"), "many bytes": strings.Repeat("\x01", 100000),
		"a first byte of 0": "\x00" + leaf[1:], "a first byte of 3": "\x03" + leaf[1:], "an inner node as a leaf": "\x01" + inner[1:], "a leaf as an inner node": "\x02" + leaf[1:], "a first byte of 255": "\xff" + inner[1:],
		"a chunk too few": "\x01\x02" + leaf[2:], "a chunk too many": "\x01\x04" + leaf[2:], "nine chunks": "\x01\x09" + full[2:], "255 chunks": "\x01\xff" + full[2:], "no keys": "\x02\x00" + inner[2:], "a key too few": "\x02\x01" + inner[2:], "a key too many": "\x02\x03" + inner[2:], "eight keys": "\x02\x08" + fullInner[2:], "255 keys": "\x02\xff" + fullInner[2:], "no chunks": "\x01\x00" + leaf[2:], "an inner node without keys": "\x02\x00\x07" + blockOf("\x00")[3:],
		"a byte behind a leaf": leaf[:23] + "\x01" + leaf[24:], "a byte behind an inner node": inner[:12] + "\x01" + inner[13:], "the last byte of a leaf": leaf[:63] + "\x01", "the last byte of an inner node": inner[:63] + "\x01", "the byte behind eight chunks": full[:58] + "\x01" + full[59:], "the byte behind seven keys": fullInner[:32] + "\x01" + fullInner[33:], "a byte behind an empty leaf": "\x01\x00\x01" + blockOf("\x00")[3:],
		"a byte less": leaf[:63], "a byte more": leaf + "\x00", "an inner node with a byte less": inner[:63], "an inner node with a byte more": inner + "\x00", "only the chunks": full[:58], "two blocks": leaf + leaf, "two bytes": "\x01\x00",
	} {
		check(t, what, checkDecodeNode(t, block), false)
	}
}

// Every byte of a block with another value, and every length.
func TestP16DamagedBlocks(t *testing.T) {
	counts := map[bool]int{}
	for _, n := range append(goodNodes()[:11], leafOf(chunksOf(numbersFrom(10, 17)...)...), innerOf(numbersFrom(10, 16), numbersFrom(20, 27))) {
		block := blockOfNode(n)
		for i := range block {
			counts[checkDecodeNode(t, block[:i])]++
			counts[checkDecodeNode(t, block+block[:i])]++
			for c := range 256 {
				counts[checkDecodeNode(t, block[:i]+string([]byte{byte(c)})+block[i+1:])]++
			}
		}
	}
	if counts[true] < 10000 || counts[false] < 10000 {
		t.Errorf("too few: %v", counts)
	}
	m := newTypeMaker(112)
	for range 20000 {
		block := []byte(m.drawBlock())
		for i := range block {
			block[i] %= 4
		}
		used := m.IntN(65)
		copy(block[used:], blockOf("\x00"))
		checkDecodeNode(t, string(block))
	}
}

func TestP16EmptyIndexes(t *testing.T) {
	p, root, code := checkNewIndex(t, "empty", emptyStore(t, 40, 12))
	check(t, "NewIndex", []any{root, code, p.Dirty[1]}, []any{int64(15), int64(impl.OK), pageAt(15, "\x01\x00"+blockOf("\x00")[2:])})
	chunks, blocks, code := checkIndex(t, "empty", p, root)
	check(t, "an empty index", []any{len(chunks), blocks, code}, []any{0, []int64{15}, int64(impl.OK)})
	after, same, found, code := checkDelete(t, "empty", p, root, 0)
	check(t, "DeleteChunk", []any{impl.SamePager(after, p), same, found, code}, []any{true, root, false, int64(impl.OK)})
	q, second, code := checkNewIndex(t, "second", p)
	check(t, "a second index", []int64{second, code}, []int64{16, impl.OK})
	q, code = checkFreeIndex(t, "first", q, root)
	check(t, "FreeIndex", []any{code, impl.IsAllocated(q, 15), impl.IsAllocated(q, 16)}, []any{int64(impl.OK), false, true})
	// An index is written even if the block contains an empty leaf already.
	stale := emptyStore(t, 40, 12)
	stale.Disk = withBlocks(stale.Disk, 15, []string{blockOfNode(leafOf())})
	after, _, _ = checkNewIndex(t, "stale", stale)
	check(t, "pages that are written", dirtyBlocks(after), []int64{14, 15})
	// The shortest free run.
	_, at, _ := checkNewIndex(t, "runs", spacedStore(t, "...x..x.x.."))
	check(t, "NewIndex", at, int64(18))
	_, _, code = checkNewIndex(t, "full", spacedStore(t, "xxxxx"))
	check(t, "NewIndex without a free block", code, int64(impl.ErrFull))
	// The log takes 6 pages.
	for dirty := int64(0); dirty <= 6; dirty++ {
		want := int64(impl.OK)
		if dirty > 4 {
			want = impl.ErrFull
		}
		_, _, code = checkNewIndex(t, "room", withPages(t, emptyStore(t, 40, 8), pagesAt("dirty", numbersFrom(20, 19+dirty)...)...))
		check(t, shown("NewIndex", dirty), code, want)
	}
}

// checkNoIndex checks that a number is not the root of an index, and that no function takes it for one.
func checkNoIndex(t *testing.T, what string, p impl.Pager, root int64) {
	t.Helper()
	_, _, code := checkIndex(t, what, p, root)
	codes := []int64{code}
	for _, key := range []int64{0, 5, 70, 65535} {
		_, _, code = checkInsert(t, what, p, root, chunkOf(key))
		codes = append(codes, code)
		_, _, _, code = checkDelete(t, what, p, root, key)
		codes = append(codes, code)
	}
	_, code = checkFreeIndex(t, what, p, root)
	codes = append(codes, code)
	check(t, shown(what, root), codes, slices.Repeat([]int64{impl.ErrCorrupt}, 10))
}

// A tree with three levels, the parts of which the following tests damage. Its
// blocks are 33 to 44: 34 and 39 are the inner nodes below the root.
const threeLevels = "[[(2 4 6 8) 10 (10 12 14 16) 17 (18 20 22 24) 26 (26 28 30 32)] 34 [(34 36 38 40) 42 (42 44 46 48) 49 (50 52 54 56) 57 (58 60 62 64 66)]]"

// damaged returns a store with the tree of a text, of which one page is replaced.
func damaged(t *testing.T, text string, k int64, block string) impl.Pager {
	t.Helper()
	p := planted(t, text)
	p.Disk = withBlocks(p.Disk, k, []string{block})
	return p
}

// checkCodeOf checks whether a text describes a valid index.
func checkCodeOf(t *testing.T, text string, want int64) {
	t.Helper()
	p := planted(t, text)
	_, _, code := checkIndex(t, text, p, 33)
	check(t, text, code, want)
	if want != impl.OK {
		checkNoIndex(t, text, p, 33)
	}
}

func TestP16RootsThatAreNotValid(t *testing.T) {
	p := planted(t, threeLevels)
	_, _, code := checkIndex(t, "a tree", p, 33)
	check(t, "a tree", code, int64(impl.OK))
	for _, root := range []int64{45, 99, 100, 101, 32, 31, 2, 1, 0, -1, -33, 255, 256, 33 + 256, 33 + 65536, math.MinInt64, math.MaxInt64} {
		checkNoIndex(t, "no root", p, root)
	}
	// Each subtree is an index of its own.
	for _, root := range numbersFrom(34, 43) {
		_, _, code := checkIndex(t, "a subtree", p, root)
		check(t, shown("a subtree", root), code, int64(impl.OK))
	}
	for what, block := range map[string]string{"zero bytes": blockOf("\x00"), "letters": blockOf("a"), "no keys": "\x02\x00\x22" + blockOf("\x00")[3:], "a byte behind it": blockOfNode(innerOf([]int64{34}, []int64{34, 39}))[:63] + "\x01"} {
		checkNoIndex(t, what, damaged(t, threeLevels, 33, block), 33)
	}
	// A free block, and blocks that cannot be allocated.
	for _, k := range numbersFrom(33, 43) {
		_, area := areaOf(p)
		checkNoIndex(t, shown("a block that is not allocated", k), withArea(p, 0, withBits(area, false, k)), 33)
	}
	for _, k := range numbersFrom(0, 32) {
		q := p
		q.Disk = withBlocks(p.Disk, k, []string{blockOfNode(leafOf(chunksOf(1, 2, 3)...))})
		if impl.ValidPager(q) {
			checkNoIndex(t, "a block before the data", q, k)
		}
	}
}

func TestP16BlocksThatOccurTwice(t *testing.T) {
	inner := func(keys []int64, kids ...int64) string { return blockOfNode(innerOf(keys, kids)) }
	first, second := []int64{10, 17, 26}, []int64{42, 49, 57}
	for _, c := range []struct {
		what  string
		k     int64
		block string
	}{
		{"a child twice", 33, inner([]int64{34}, 34, 34)}, {"the root as its first child", 33, inner([]int64{34}, 33, 39)}, {"the root as its last child", 33, inner([]int64{34}, 34, 33)}, {"the root twice", 33, inner([]int64{34}, 33, 33)},
		{"a leaf twice", 34, inner(first, 35, 36, 36, 38)}, {"a leaf twice at the end", 39, inner(second, 40, 41, 42, 42)}, {"a leaf in two nodes", 39, inner(second, 35, 41, 42, 43)}, {"the root below itself", 39, inner(second, 33, 41, 42, 43)}, {"a node below itself", 34, inner(first, 35, 36, 37, 34)}, {"the other node below a node", 34, inner(first, 35, 36, 37, 39)},
		{"the leaves of another node", 39, inner(second, 35, 36, 37, 38)},
	} {
		checkNoIndex(t, c.what, damaged(t, threeLevels, c.k, c.block), 33)
	}
	// Leaves that any bounds admit, because they are equal and empty.
	empty := damaged(t, "[() 5 ()]", 33, inner([]int64{5}, 34, 34))
	checkNoIndex(t, "an empty leaf twice", empty, 33)
	// A node of another kind.
	for _, k := range []int64{34, 39} {
		checkNoIndex(t, "a leaf instead of an inner node", damaged(t, threeLevels, k, blockOfNode(leafOf(chunksOf(34*(k-34)/5, 34*(k-34)/5+1, 34*(k-34)/5+2, 34*(k-34)/5+3)...))), 33)
	}
	for _, kid := range []int64{45, 99, 100, 32, 31, 1, 255} {
		checkNoIndex(t, shown("a child that is no node", kid), damaged(t, threeLevels, 34, inner(first, 35, 36, kid, 38)), 33)
		checkNoIndex(t, shown("a child that is no node", kid), damaged(t, threeLevels, 33, inner([]int64{34}, 34, kid)), 33)
	}
}

func TestP16LeavesOfDifferentDepths(t *testing.T) {
	row := func(first int64) string {
		last := first - 2
		return rowText(&last, 4, 4, 4, 4)
	}
	for _, text := range []string{
		"[(2 4 6 8) 10 " + row(10) + "]", "[" + row(2) + " 50 (50 52 54 56)]", "[(2 4 6 8) 10 " + row(10) + " 50 (50 52 54 56)]",
		"[[(2 4 6 8) 10 (10 12 14 16) 18 (18 20 22 24) 26 " + row(26) + "] 70 " + row(70) + "]",
		"[" + row(2) + " 40 [(40 42 44 46) 50 " + row(50) + " 90 (90 92 94 96) 100 (100 102 104 106)]]",
		"[[" + row(2) + " 40 " + row(40) + " 80 " + row(80) + " 120 " + row(120) + "] 160 " + row(160) + "]",
	} {
		checkCodeOf(t, text, impl.ErrCorrupt)
	}
	checkCodeOf(t, "["+row(2)+" 50 "+row(50)+"]", impl.OK)
	checkCodeOf(t, "[["+row(2)+" 40 "+row(40)+" 80 "+row(80)+" 120 "+row(120)+"] 160 ["+row(160)+" 200 "+row(200)+" 240 "+row(240)+" 280 "+row(280)+"]]", impl.OK)
}

// Chains of inner nodes with depths around the greatest one, and the deepest
// tree for which there are blocks.
func TestP16Depths(t *testing.T) {
	for depth := 2; depth <= 12; depth++ {
		text := "(2000 2001 2002 2003)"
		for i := range int64(depth - 1) {
			text = "[(" + strings.Trim(strings.ReplaceAll(shown(numbersFrom(1900-100*i, 1903-100*i)), "[", ""), "]") + ") " + strconv.FormatInt(1904-100*i, 10) + " " + text + "]"
		}
		want := int64(impl.ErrCorrupt)
		if depth == 2 {
			want = impl.OK
		}
		checkCodeOf(t, text, want)
	}
	text, last := deepTree(), int64(0)
	p := onDisk(t, 256, 64, pagesOfTree(text, numbersFrom(67, 255))...)
	chunks, blocks, code := checkIndex(t, "five levels", p, 67)
	check(t, "five levels", []any{code, len(blocks), len(chunks), treeText(p, 67)}, []any{int64(impl.OK), 171, 512, text})
	for i, c := range chunks {
		check(t, "increasing keys", c.Key > last, true)
		last = c.Key
		if i%37 == 0 {
			_, _, code = checkInsert(t, "five levels", p, 67, chunkOf(c.Key+1))
			check(t, "InsertChunk", code, int64(impl.OK))
			after, root, found, code := checkDelete(t, "five levels", p, 67, c.Key)
			// All nodes on the way have as few entries as they may have.
			_, blocks, _ := checkIndex(t, "four levels", after, root)
			check(t, "DeleteChunk", []any{found, code, len(blocks), impl.FreeCount(after) - impl.FreeCount(p)}, []any{true, int64(impl.OK), 166, int64(5)})
		}
	}
	none, code := checkFreeIndex(t, "five levels", p, 67)
	check(t, "FreeIndex", []any{code, impl.FreeCount(none), dirtyBlocks(none)}, []any{int64(impl.OK), int64(189), []int64{66}})
}

// deepTree returns the smallest tree with five levels.
func deepTree() string {
	last := int64(0)
	var tree func(levels, count int) string
	tree = func(levels, count int) string {
		if levels == 0 {
			return leafText(&last, 4)
		}
		var words []string
		for i := range count {
			if i > 0 {
				words = append(words, strconv.FormatInt(last+1, 10))
			}
			words = append(words, tree(levels-1, 4))
		}
		return "[" + strings.Join(words, " ") + "]"
	}
	return tree(4, 2)
}

func TestP16BoundsOfKeys(t *testing.T) {
	for text, want := range map[string]int64{
		// Chunks.
		"[(1 2 3 4) 5 (5 6 7 8)]": impl.OK, "[(1 2 3 4) 5 (6 7 8 9)]": impl.OK, "[(0 1 2 3) 65532 (65532 65533 65534 65535)]": impl.OK, "[(1 2 3 4) 100 (200 201 202 203)]": impl.OK,
		"[(1 2 3 5) 5 (5 6 7 8)]": impl.ErrCorrupt, "[(1 2 3 5) 5 (6 7 8 9)]": impl.ErrCorrupt, "[(1 2 3 6) 5 (7 8 9 10)]": impl.ErrCorrupt, "[(1 2 3 4) 5 (4 6 7 8)]": impl.ErrCorrupt, "[(1 2 3 4) 5 (0 6 7 8)]": impl.ErrCorrupt, "[(6 7 8 9) 5 (1 2 3 4)]": impl.ErrCorrupt, "[(6 7 8 9) 5 (10 11 12 13)]": impl.ErrCorrupt, "[(1 2 3 4) 14 (10 11 12 13)]": impl.ErrCorrupt,
		"[(1 2 3 4) 5 (5 6 7 8) 9 (9 10 11 12)]": impl.OK, "[(1 2 3 4) 5 (5 6 7 9) 9 (9 10 11 12)]": impl.ErrCorrupt, "[(1 2 3 4) 5 (4 6 7 8) 9 (9 10 11 12)]": impl.ErrCorrupt, "[(1 2 3 4) 5 (5 6 7 8) 9 (8 10 11 12)]": impl.ErrCorrupt, "[(1 2 3 9) 10 (11 12 13 14) 20 (20 21 22 23)]": impl.OK, "[(1 2 3 10) 10 (11 12 13 14) 20 (20 21 22 23)]": impl.ErrCorrupt, "[(1 2 3 4) 10 (11 12 13 20) 20 (20 21 22 23)]": impl.ErrCorrupt, "[(1 2 3 4) 10 (11 12 13 19) 20 (20 21 22 23)]": impl.OK,
		// A chunk within the bounds of the node above it, but not of the root.
		strings.Replace(threeLevels, "30 32)", "30 33)", 1): impl.OK, strings.Replace(threeLevels, "30 32)", "30 34)", 1): impl.ErrCorrupt, strings.Replace(threeLevels, "30 32)", "30 99)", 1): impl.ErrCorrupt,
		strings.Replace(threeLevels, "(34 36", "(35 36", 1): impl.OK, strings.Replace(threeLevels, "(34 36", "(33 36", 1): impl.ErrCorrupt, strings.Replace(threeLevels, "(34 36", "(0 36", 1): impl.ErrCorrupt,
		// The keys of inner nodes.
		strings.Replace(threeLevels, "26 (26", "25 (26", 1): impl.OK, strings.Replace(threeLevels, "26 (26", "24 (26", 1): impl.ErrCorrupt, strings.Replace(threeLevels, "26 (26", "27 (26", 1): impl.ErrCorrupt, strings.Replace(threeLevels, "26 (26", "34 (26", 1): impl.ErrCorrupt,
		"[[(2 4 6 8) 10 (10 12 14 16) 17 (18 20 22 24) 34 (35 36 37 38)] 34 [(44 46 48 50) 52 (52 54 56 58) 60 (60 62 64 66) 68 (68 70 72 74)]]":    impl.ErrCorrupt,
		"[[(2 4 6 8) 10 (10 12 14 16) 17 (18 20 22 24) 33 (33 36 37 38)] 34 [(44 46 48 50) 52 (52 54 56 58) 60 (60 62 64 66) 68 (68 70 72 74)]]":    impl.ErrCorrupt,
		"[[(2 4 6 8) 10 (10 12 14 16) 17 (18 20 22 24) 33 (33 36 37 38)] 39 [(44 46 48 50) 52 (52 54 56 58) 60 (60 62 64 66) 68 (68 70 72 74)]]":    impl.OK,
		"[[(2 4 6 8) 10 (10 12 14 16) 17 (18 20 22 24) 26 (26 28 30 32)] 34 [(26 28 30 32) 34 (34 36 38 40) 42 (42 44 46 48) 49 (50 52 54 56)]]":    impl.ErrCorrupt,
		"[[(2 4 6 8) 10 (10 12 14 16) 17 (18 20 22 24) 26 (26 28 30 32)] 34 [(34 35 36 37) 34 (38 39 40 41) 42 (42 44 46 48) 49 (50 52 54 56)]]":    impl.ErrCorrupt,
		"[[(2 4 6 8) 10 (10 12 14 16) 17 (18 20 22 24) 26 (26 28 30 32)] 34 [(20 21 22 23) 33 (34 36 38 40) 42 (42 44 46 48) 49 (50 52 54 56)]]":    impl.ErrCorrupt,
		"[[(2 4 6 8) 10 (10 12 14 16) 17 (18 20 22 24) 26 (26 28 30 32)] 34 [(34 36 38 40) 41 (42 44 46 48) 49 (50 52 54 56) 65535 (60 62 64 66)]]": impl.ErrCorrupt,
	} {
		checkCodeOf(t, text, want)
	}
}

func TestP16FewestChunksAndKeys(t *testing.T) {
	for _, text := range []string{"()", "(7)", "(1 2 3)", "(1 2 3 4 5 6 7 8)", rowsText(sizes(4, 4), sizes(4, 4)), rowsText(sizes(8, 8), sizes(8, 8), sizes(8, 8)), rowsText(sizes(4, 4), sizes(5, 8))} {
		checkCodeOf(t, text, impl.OK)
	}
	for few := range 9 {
		want := int64(impl.OK)
		if few < 4 {
			want = impl.ErrCorrupt
		}
		for i := range 3 {
			row := []int{4, 4, 4}
			row[i] = few
			last := int64(0)
			checkCodeOf(t, rowText(&last, row...), want)
			if few < 2 {
				continue
			}
			rows := [][]int{sizes(4, 5), sizes(4, 5), sizes(4, 5)}
			rows[i] = sizes(few, 5)
			checkCodeOf(t, rowsText(rows...), want)
			rows[i] = sizes(4, 5)
			rows[i][few%4] = few
			checkCodeOf(t, rowsText(rows...), want)
		}
	}
}

// Some bytes of every block of a tree with other values.
func TestP16DamagedBytesOfIndexes(t *testing.T) {
	counts := map[int64]int{}
	p := planted(t, threeLevels)
	for k := int64(33); k <= 43; k++ {
		block, _ := impl.GetPage(p, k)
		for b := range 40 {
			for _, value := range []byte{0, 1, 2, 3, 4, 5, 9, 10, 26, 33, 34, 35, 36, 39, 43, 44, 50, 255} {
				other := []byte(block)
				other[b] = value
				q := p
				q.Disk = withBlocks(p.Disk, k, []string{string(other)})
				want, wantCode := indexIn(q, 33)
				chunks, code := impl.ChunksOf(q, 33)
				check(t, shown("damaged", k, b, value), code, wantCode)
				if code == impl.OK {
					checkShown(t, shown("damaged", k, b, value), shown(chunks), shown(want.chunks()))
				}
				counts[code]++
			}
		}
	}
	if counts[impl.OK] < 500 || counts[impl.ErrCorrupt] < 500 {
		t.Errorf("too few of a code: %v", counts)
	}
}

// An index is read in the transaction, in the log, and on the disk.
func TestP16IndexesInThreePlaces(t *testing.T) {
	pages := pagesOfTree("[(1 2 3 4) 5 (5 6 7 8)]", []int64{33, 50, 40})
	for places := range 27 {
		p := scattered(t, 100, 30, pages, places)
		what := shown("places", places)
		_, blocks, code := checkIndex(t, what, p, 33)
		check(t, what, []any{code, blocks}, []any{int64(impl.OK), []int64{33, 50, 40}})
		after, root, code := checkInsert(t, what, p, 33, chunkOf(9))
		check(t, "InsertChunk", []any{code, treeText(after, root)}, []any{int64(impl.OK), "[(1 2 3 4) 5 (5 6 7 8 9)]"})
		after, root, found, code := checkDelete(t, what, p, 33, 2)
		check(t, "DeleteChunk", []any{code, found, treeText(after, root)}, []any{int64(impl.OK), true, "(1 3 4 5 6 7 8)"})
	}
}

// step is a change of an index: a key whose chunk is inserted or deleted.
type step struct {
	key   int64
	isOut bool
}

func in(key int64) step  { return step{key, false} }
func out(key int64) step { return step{key, true} }

// tryStep makes a change.
func tryStep(t *testing.T, what string, p impl.Pager, root int64, s step) (after impl.Pager, newRoot int64, found bool, code int64) {
	t.Helper()
	if s.isOut {
		return checkDelete(t, what, p, root, s.key)
	}
	after, newRoot, code = checkInsert(t, what, p, root, chunkOf(s.key))
	return after, newRoot, code == impl.OK, code
}

// checkStep makes a change, which must succeed.
func checkStep(t *testing.T, what string, p impl.Pager, root int64, s step) (impl.Pager, int64) {
	t.Helper()
	after, newRoot, found, code := tryStep(t, what, p, root, s)
	check(t, shown(what, s), []any{found, code}, []any{true, int64(impl.OK)})
	return after, newRoot
}

// The tree before and after a change, the blocks of the tree after it, and the
// blocks that are written. The allocation page is block 32; the blocks of the
// tree before it are 33 and those behind it.
func TestP16WrittenTrees(t *testing.T) {
	for _, c := range []struct {
		before  string
		s       step
		after   string
		blocks  []int64
		written []int64
	}{
		// Insertions without a split.
		{"()", in(5), "(5)", []int64{33}, []int64{33}},
		{"(5)", in(4), "(4 5)", []int64{33}, []int64{33}},
		{"(1 2 3 4 6 7 8)", in(5), "(1 2 3 4 5 6 7 8)", []int64{33}, []int64{33}},
		{"[(1 2 3 4) 10 (11 12 13 14)]", in(9), "[(1 2 3 4 9) 10 (11 12 13 14)]", []int64{33, 34, 35}, []int64{34}},
		{"[(1 2 3 4) 10 (11 12 13 14)]", in(10), "[(1 2 3 4) 10 (10 11 12 13 14)]", []int64{33, 34, 35}, []int64{35}},
		{"[(1 2 3 4) 10 (11 12 13 14) 20 (30 31 32 33)]", in(19), "[(1 2 3 4) 10 (11 12 13 14 19) 20 (30 31 32 33)]", []int64{33, 34, 35, 36}, []int64{35}},
		{"[(1 2 3 4) 10 (11 12 13 14) 20 (30 31 32 33)]", in(20), "[(1 2 3 4) 10 (11 12 13 14) 20 (20 30 31 32 33)]", []int64{33, 34, 35, 36}, []int64{36}},
		{"[(1 2 3 4) 10 (11 12 13 14)]", in(0), "[(0 1 2 3 4) 10 (11 12 13 14)]", []int64{33, 34, 35}, []int64{34}},
		{"[(1 2 3 4) 10 (11 12 13 14)]", in(65535), "[(1 2 3 4) 10 (11 12 13 14 65535)]", []int64{33, 34, 35}, []int64{35}},
		// A leaf is split.
		{"(1 2 3 4 5 6 7 8)", in(9), "[(1 2 3 4) 5 (5 6 7 8 9)]", []int64{35, 33, 34}, []int64{32, 33, 34, 35}},
		{"(1 2 3 4 5 6 7 8)", in(0), "[(0 1 2 3) 4 (4 5 6 7 8)]", []int64{35, 33, 34}, []int64{32, 33, 34, 35}},
		{"(10 20 30 40 50 60 70 80)", in(45), "[(10 20 30 40) 45 (45 50 60 70 80)]", []int64{35, 33, 34}, []int64{32, 33, 34, 35}},
		{"(10 20 30 40 50 60 70 80)", in(35), "[(10 20 30 35) 40 (40 50 60 70 80)]", []int64{35, 33, 34}, []int64{32, 33, 34, 35}},
		{"[(1 2 3 4 5 6 7 8) 10 (11 12 13 14)]", in(9), "[(1 2 3 4) 5 (5 6 7 8 9) 10 (11 12 13 14)]", []int64{33, 34, 36, 35}, []int64{32, 33, 34, 36}},
		{"[(1 2 3 4) 10 (11 12 13 14 15 16 17 18) 20 (30 31 32 33)]", in(19), "[(1 2 3 4) 10 (11 12 13 14) 15 (15 16 17 18 19) 20 (30 31 32 33)]", []int64{33, 34, 35, 37, 36}, []int64{32, 33, 35, 37}},
		{"[(1 2 3 4) 10 (11 12 13 14 15 16 17 18)]", in(10), "[(1 2 3 4) 10 (10 11 12 13) 14 (14 15 16 17 18)]", []int64{33, 34, 35, 36}, []int64{32, 33, 35, 36}},
		// Deletions without another change.
		{"(5)", out(5), "()", []int64{33}, []int64{33}},
		{"(1 2 3 4)", out(1), "(2 3 4)", []int64{33}, []int64{33}},
		{"[(1 2 3 4 5) 10 (11 12 13 14)]", out(1), "[(2 3 4 5) 10 (11 12 13 14)]", []int64{33, 34, 35}, []int64{34}},
		{"[(1 2 3 4) 10 (10 11 12 13 14)]", out(10), "[(1 2 3 4) 10 (11 12 13 14)]", []int64{33, 34, 35}, []int64{35}},
		// A chunk moves from behind, to the first child only.
		{"[(1 2 3 4) 10 (11 12 13 14 15)]", out(4), "[(1 2 3 11) 12 (12 13 14 15)]", []int64{33, 34, 35}, []int64{33, 34, 35}},
		{"[(1 2 3 4) 10 (11 12 13 14 15 16 17 18)]", out(1), "[(2 3 4 11) 12 (12 13 14 15 16 17 18)]", []int64{33, 34, 35}, []int64{33, 34, 35}},
		{"[(1 2 3 4) 10 (11 12 13 14 15) 20 (21 22 23 24 25)]", out(2), "[(1 3 4 11) 12 (12 13 14 15) 20 (21 22 23 24 25)]", []int64{33, 34, 35, 36}, []int64{33, 34, 35}},
		// A chunk moves from before.
		{"[(1 2 3 4 5) 10 (11 12 13 14)]", out(12), "[(1 2 3 4) 5 (5 11 13 14)]", []int64{33, 34, 35}, []int64{33, 34, 35}},
		{"[(1 2 3 4 5 6 7 8) 10 (11 12 13 14)]", out(14), "[(1 2 3 4 5 6 7) 8 (8 11 12 13)]", []int64{33, 34, 35}, []int64{33, 34, 35}},
		{"[(1 2 3 4 5) 10 (11 12 13 14) 20 (21 22 23 24 25)]", out(11), "[(1 2 3 4) 5 (5 12 13 14) 20 (21 22 23 24 25)]", []int64{33, 34, 35, 36}, []int64{33, 34, 35}},
		{"[(1 2 3 4) 10 (11 12 13 14 15) 20 (21 22 23 24)]", out(24), "[(1 2 3 4) 10 (11 12 13 14) 15 (15 21 22 23)]", []int64{33, 34, 35, 36}, []int64{33, 35, 36}},
		// The sibling has none to spare, although the child on the other side has.
		{"[(1 2 3 4) 10 (11 12 13 14) 20 (21 22 23 24 25)]", out(14), "[(1 2 3 4 11 12 13) 20 (21 22 23 24 25)]", []int64{33, 34, 36}, []int64{32, 33, 34}},
		// Leaves are merged.
		{"[(1 2 3 4) 10 (11 12 13 14) 20 (21 22 23 24)]", out(1), "[(2 3 4 11 12 13 14) 20 (21 22 23 24)]", []int64{33, 34, 36}, []int64{32, 33, 34}},
		{"[(1 2 3 4) 10 (11 12 13 14) 20 (21 22 23 24)]", out(11), "[(1 2 3 4 12 13 14) 20 (21 22 23 24)]", []int64{33, 34, 36}, []int64{32, 33, 34}},
		{"[(1 2 3 4) 10 (11 12 13 14) 20 (21 22 23 24)]", out(21), "[(1 2 3 4) 10 (11 12 13 14 22 23 24)]", []int64{33, 34, 35}, []int64{32, 33, 35}},
		{"[(1 2 3 4) 10 (11 12 13 14)]", out(1), "(2 3 4 11 12 13 14)", []int64{34}, []int64{32, 34}},
		{"[(1 2 3 4) 10 (11 12 13 14)]", out(13), "(1 2 3 4 11 12 14)", []int64{34}, []int64{32, 34}},
	} {
		p := planted(t, c.before)
		after, root := checkStep(t, c.before, p, 33, c.s)
		blocks, _ := impl.IndexBlocks(after, root)
		check(t, shown(c.before, c.s), []any{treeText(after, root), blocks, dirtyBlocks(after)}, []any{c.after, c.blocks, c.written})
		checkIndex(t, c.before, after, root)
	}
}

// The same for inner nodes, with blocks that are counted only.
func TestP16WrittenTreesOfThreeLevels(t *testing.T) {
	leaf := func(first int64, count int64) string {
		return "(" + strings.Trim(shown(numbersFrom(first, first+count-1)), "[]") + ")"
	}
	// Leaves with the chunks 0 to 3, 10 to 13, and so on, between the keys 10, 20, and so on.
	row := func(first, last int64) string {
		text := leaf(first, 4)
		for k := first + 10; k <= last; k += 10 {
			text += " " + strconv.FormatInt(k, 10) + " " + leaf(k, 4)
		}
		return text
	}
	for _, c := range []struct {
		before string
		s      step
		after  string
	}{
		// A child moves from behind to the first child, and from before to another one.
		{"[[" + row(0, 30) + "] 40 [" + row(40, 80) + "]]", out(1), "[[(0 2 3 10 11 12 13) 20 " + row(20, 30) + " 40 " + row(40, 40) + "] 50 [" + row(50, 80) + "]]"},
		{"[[" + row(0, 30) + "] 35 [" + row(40, 110) + "]]", out(33), "[[" + row(0, 10) + " 20 (20 21 22 23 30 31 32) 35 " + row(40, 40) + "] 50 [" + row(50, 110) + "]]"},
		{"[[" + row(0, 40) + "] 50 [" + row(50, 80) + "]]", out(60), "[[" + row(0, 30) + "] 40 [" + row(40, 40) + " 50 (50 51 52 53 61 62 63) 70 " + row(70, 80) + "]]"},
		{"[[" + row(0, 70) + "] 75 [" + row(80, 110) + "] 120 [" + row(120, 160) + "]]", out(113), "[[" + row(0, 60) + "] 70 [" + row(70, 70) + " 75 " + row(80, 90) + " 100 (100 101 102 103 110 111 112)] 120 [" + row(120, 160) + "]]"},
		// Both are merged, with the key of the root between their keys.
		{"[[" + row(0, 30) + "] 35 [" + row(40, 70) + "] 80 [" + row(80, 120) + "]]", out(1), "[[(0 2 3 10 11 12 13) 20 " + row(20, 30) + " 35 " + row(40, 70) + "] 80 [" + row(80, 120) + "]]"},
		{"[[" + row(0, 30) + "] 35 [" + row(40, 70) + "] 80 [" + row(80, 120) + "]]", out(41), "[[" + row(0, 30) + " 35 (40 42 43 50 51 52 53) 60 " + row(60, 70) + "] 80 [" + row(80, 120) + "]]"},
		{"[[" + row(0, 30) + "] 35 [" + row(40, 70) + "] 75 [" + row(80, 110) + "]]", out(110), "[[" + row(0, 30) + "] 35 [" + row(40, 70) + " 75 " + row(80, 90) + " 100 (100 101 102 103 111 112 113)]]"},
		{"[[" + row(0, 30) + "] 35 [" + row(40, 70) + "]]", out(1), "[(0 2 3 10 11 12 13) 20 " + row(20, 30) + " 35 " + row(40, 70) + "]"},
		{"[[" + row(0, 30) + "] 35 [" + row(40, 70) + "]]", out(73), "[" + row(0, 30) + " 35 " + row(40, 50) + " 60 (60 61 62 63 70 71 72)]"},
		// A leaf and an inner node are split, with a root that is not full.
		{"[[(0 1 2 3 4 5 6 7) 10 " + row(10, 70) + "] 80 [" + row(80, 110) + "]]", in(8), "[[(0 1 2 3) 4 (4 5 6 7 8) 10 " + row(10, 30) + "] 40 [" + row(40, 70) + "] 80 [" + row(80, 110) + "]]"},
		{"[[" + row(0, 30) + "] 40 [" + row(40, 100) + " 110 (110 111 112 113 114 115 116 117)]]", in(118), "[[" + row(0, 30) + "] 40 [" + row(40, 80) + "] 90 [" + row(90, 100) + " 110 (110 111 112 113) 114 (114 115 116 117 118)]]"},
		// A leaf in the middle, the key of which becomes that of the new root.
		{"[" + row(0, 20) + " 30 (30 31 32 33 34 35 36 37) 40 " + row(40, 70) + "]", in(38), "[[" + row(0, 20) + " 30 (30 31 32 33) 34 (34 35 36 37 38)] 40 [" + row(40, 70) + "]]"},
		{"[" + row(0, 30) + " 40 (40 41 42 43 44 45 46 47) 50 " + row(50, 70) + "]", in(48), "[[" + row(0, 40) + "] 44 [(44 45 46 47 48) 50 " + row(50, 70) + "]]"},
		{"[" + row(0, 60) + " 70 (70 71 72 73 74 75 76 77)]", in(78), "[[" + row(0, 40) + "] 50 [" + row(50, 70) + " 74 (74 75 76 77 78)]]"},
	} {
		p := planted(t, c.before)
		after, root := checkStep(t, c.before, p, 33, c.s)
		check(t, shown(c.before, c.s), treeText(after, root), c.after)
		_, blocks, _ := checkIndex(t, c.before, after, root)
		// The nodes are as many as the brackets of the texts.
		count := func(text string) int { return strings.Count(text, "(") + strings.Count(text, "[") }
		check(t, shown(c.before, c.s), []int{len(blocks), int(impl.FreeCount(p) - impl.FreeCount(after))}, []int{count(c.after), count(c.after) - count(c.before)})
	}
}

// The blocks of a split of a leaf, an inner node and the root in one insertion,
// in the order of their allocation, which is not that of their numbers.
func TestP16OrderOfAllocation(t *testing.T) {
	last := int64(0)
	row := rowText(&last, 8, 8, 8, 8, 8, 8, 8, 8)
	for _, c := range []struct {
		taken  []int64
		blocks []int64 // those of the new leaf, the new inner node, and the new root
	}{
		{nil, []int64{42, 43, 44}},
		{[]int64{44, 47, 50, 52}, []int64{51, 42, 43}},
		{[]int64{43, 45}, []int64{42, 44, 46}},
		{[]int64{45, 48, 50}, []int64{49, 46, 47}},
	} {
		p := onDisk(t, 100, 30, append(pagesOfTree(row, numbersFrom(33, 41)), pagesAt("taken", c.taken...)...)...)
		after, root, code := checkInsert(t, "order", p, 33, chunkOf(1))
		blocks, _ := impl.IndexBlocks(after, root)
		leaf, inner, top := c.blocks[0], c.blocks[1], c.blocks[2]
		check(t, shown("blocks", c.taken), []any{code, root, blocks}, []any{int64(impl.OK), top, []int64{top, 33, 34, leaf, 35, 36, 37, inner, 38, 39, 40, 41}})
	}
	// Three levels, with two inner nodes and the root that are split.
	p := onDisk(t, 256, 64, pagesOfTree(rowsText(slices.Repeat([][]int{sizes(8, 8)}, 8)...), numbersFrom(67, 255))...)
	after, root, code := checkInsert(t, "three levels", p, 67, chunkOf(1))
	blocks, _ := impl.IndexBlocks(after, root)
	added := slices.DeleteFunc(slices.Clone(blocks), func(k int64) bool { return k < 67+73 })
	check(t, "three levels", []any{code, root, added}, []any{int64(impl.OK), int64(143), []int64{143, 140, 141, 142}})
}

// Every key is deleted from small trees of two levels, and other keys are inserted.
func TestP16AllSmallTrees(t *testing.T) {
	counts := map[string]int{}
	for _, a := range []int{4, 5, 8} {
		for _, b := range []int{4, 5, 8} {
			for _, c := range []int{0, 4, 5, 8} {
				row := []int{a, b, c}
				if c == 0 {
					row = row[:2]
				}
				last := int64(0)
				text := rowText(&last, row...)
				p := planted(t, text)
				for _, key := range keysIn(text) {
					after, root := checkStep(t, text, p, 33, out(key))
					checkIndex(t, text, after, root)
					counts[shown("delete", len(after.Dirty))]++
				}
				for key := int64(0); key <= last+2; key++ {
					after, root := checkStep(t, text, p, 33, in(key))
					checkIndex(t, text, after, root)
					counts[shown("insert", len(after.Dirty))]++
				}
			}
		}
	}
	for _, name := range []string{"delete 1", "delete 3", "insert 1", "insert 4"} {
		if counts["["+name+"]"] < 20 {
			t.Errorf("too few of %s: %v", name, counts)
		}
	}
}

// A key of each leaf is deleted from trees of three levels, and one is inserted into it.
func TestP16TreesOfThreeLevels(t *testing.T) {
	counts := map[int]int{}
	for _, rows := range [][][]int{
		{sizes(4, 4), sizes(4, 4)}, {sizes(4, 4), sizes(5, 4)}, {sizes(5, 4), sizes(4, 4)}, {sizes(8, 4), sizes(4, 4)}, {sizes(4, 4), sizes(8, 4)}, {sizes(8, 8), sizes(8, 8)}, {sizes(4, 8), sizes(8, 8)}, {sizes(4, 5), sizes(4, 5)},
		{sizes(4, 4), sizes(4, 4), sizes(4, 4)}, {sizes(5, 4), sizes(4, 4), sizes(4, 4)}, {sizes(4, 4), sizes(5, 4), sizes(4, 4)}, {sizes(4, 4), sizes(4, 4), sizes(5, 4)}, {sizes(8, 8), sizes(4, 4), sizes(8, 8)}, {{4, 5, 4, 4}, {5, 4, 4, 5}, {4, 4, 5, 4}}, {{8, 4, 8, 4, 8, 4, 8, 4}, {4, 8, 4, 8, 4, 8, 4, 8}},
		slices.Repeat([][]int{sizes(4, 4)}, 8), {sizes(7, 7), sizes(6, 6), sizes(5, 5), sizes(4, 4)},
	} {
		text := rowsText(rows...)
		p := planted(t, text)
		keys := keysIn(text)
		for i := 0; i < len(keys); i += 3 {
			after, root := checkStep(t, text, p, 33, out(keys[i]))
			checkIndex(t, text, after, root)
			counts[-len(after.Dirty)]++
			after, root = checkStep(t, text, p, 33, in(keys[i]+1))
			checkIndex(t, text, after, root)
			counts[len(after.Dirty)]++
		}
	}
	for _, written := range []int{-1, -3, -5, 1, 4, 6} {
		if counts[written] < 10 {
			t.Errorf("too few that write %d pages: %v", written, counts)
		}
	}
}

// ordersOf returns keys in several orders.
func ordersOf(keys []int64) map[string][]int64 {
	down := slices.Clone(keys)
	slices.Reverse(down)
	mixed, ends := []int64{}, []int64{}
	for i := range keys {
		mixed = append(mixed, keys[i*37%len(keys)])
		if i%2 == 0 {
			ends = append(ends, keys[i/2])
		} else {
			ends = append(ends, keys[len(keys)-1-i/2])
		}
	}
	return map[string][]int64{"ascending": keys, "descending": down, "mixed": mixed, "from both ends": ends}
}

// checkContents checks that an index contains exactly some chunks, and returns its blocks.
func checkContents(t *testing.T, what string, p impl.Pager, root int64, model map[int64]impl.Chunk) []int64 {
	t.Helper()
	chunks, code := impl.ChunksOf(p, root)
	checkValues(t, shown(what, "ChunksOf"), []any{chunks, code}, []any{sortedChunks(model), impl.OK})
	blocks, code := impl.IndexBlocks(p, root)
	check(t, shown(what, "IndexBlocks"), code, int64(impl.OK))
	return blocks
}

// checkOnly checks that an index contains exactly some chunks, and that nothing
// but its blocks is allocated.
func checkOnly(t *testing.T, what string, p impl.Pager, root int64, model map[int64]impl.Chunk) []int64 {
	t.Helper()
	blocks := checkContents(t, what, p, root, model)
	checkOwners(t, what, p, blocks)
	return blocks
}

// Indexes that grow to four levels, and become empty again.
func TestP16GrowingAndShrinking(t *testing.T) {
	keys := numbersFrom(100, 399)
	for name, order := range ordersOf(keys) {
		for otherName, otherOrder := range ordersOf(keys) {
			if name != otherName && name != "mixed" && otherName != "mixed" {
				continue
			}
			p, root, _ := checkNewIndex(t, name, emptyStore(t, 256, 24))
			model := map[int64]impl.Chunk{}
			for i, key := range order {
				p, root = checkStep(t, name, p, root, in(key))
				p, _ = impl.Commit(p)
				model[key] = chunkOf(key)
				if i%29 == 0 {
					checkOnly(t, name, p, root, model)
				}
			}
			blocks := checkOnly(t, name, p, root, model)
			if depth := strings.Index(treeText(p, root), "("); depth < 3 || len(blocks) > 120 {
				t.Errorf("%s: %d inner nodes above the first leaf, %d blocks", name, depth, len(blocks))
			}
			for i, key := range otherOrder {
				p, root = checkStep(t, otherName, p, root, out(key))
				p, _ = impl.Commit(p)
				delete(model, key)
				if i%29 == 0 {
					checkOnly(t, otherName, p, root, model)
				}
			}
			checkOnly(t, otherName, p, root, model)
			check(t, "an empty root", []any{treeText(p, root), impl.FreeCount(p)}, []any{"()", int64(256 - 24 - 3 - 1)})
		}
	}
}

func TestP16KeysThatExist(t *testing.T) {
	for _, text := range []string{"(1)", "(1 2 3 4 5 6 7 8)", "[(1 2 3 4 5 6 7 8) 9 (9 10 11 12 13 14 15 16)]", threeLevels, rowsText(sizes(8, 8), sizes(8, 8))} {
		p := planted(t, text)
		for _, key := range keysIn(text) {
			// The same chunk changes nothing, another one only its leaf.
			after, root, code := checkInsert(t, "the same", p, 33, chunkOf(key))
			check(t, shown("the same", key), []any{root, code, impl.SamePager(after, p)}, []any{int64(33), int64(impl.OK), true})
			for i, c := range []impl.Chunk{chunkOf(key), chunkOf(key), chunkOf(key)} {
				[]func(){func() { c.At = 1 + c.At%255 }, func() { c.Size = 1 }, func() { c.Mask ^= 255 }}[i]()
				after, root, code := checkInsert(t, "another one", p, 33, c)
				blocks, _ := impl.IndexBlocks(after, root)
				before, _ := impl.IndexBlocks(p, 33)
				check(t, shown("another one", c), []any{root, code, treeText(after, root), blocks, len(after.Dirty)}, []any{int64(33), int64(impl.OK), text, before, 1})
				got, ok, _ := impl.FindChunk(after, root, key)
				check(t, shown("another one", c), []any{got, ok}, []any{c, true})
			}
		}
	}
}

func TestP16KeysThatDoNotExist(t *testing.T) {
	for _, text := range []string{"()", "(2)", "(2 4 6 8 10 12 14 16)", "[(2 4 6 8) 9 (10 12 14 16)]", threeLevels} {
		p := planted(t, text)
		p = withPages(t, p, pagesAt("dirty", 60, 70)...)
		for _, key := range append(oddNumbers(), numbersFrom(-2, 70)...) {
			want := slices.Contains(keysIn(text), key)
			c, ok, code := impl.FindChunk(p, 33, key)
			check(t, shown("FindChunk", key), []any{ok, c != impl.Chunk{}, code}, []any{want, want, int64(impl.OK)})
			if !want {
				after, root, found, code := checkDelete(t, "none", p, 33, key)
				check(t, shown("DeleteChunk", key), []any{impl.SamePager(after, p), root, found, code}, []any{true, int64(33), false, int64(impl.OK)})
			}
		}
	}
	// An inner node has a key that no chunk has.
	p := planted(t, threeLevels)
	_, _, found, code := checkDelete(t, "a key of an inner node", p, 33, 17)
	check(t, "a key of an inner node", []any{found, code}, []any{false, int64(impl.OK)})
}

// Blocks that contain already what would be written, and blocks that are released.
func TestP16BlocksThatAreNotWritten(t *testing.T) {
	p := planted(t, "(1 2 3 4 5 6 7 8)")
	p.Disk = withBlocks(p.Disk, 34, []string{blockOfNode(leafOf(chunksOf(5, 6, 7, 8, 9)...)), blockOfNode(innerOf([]int64{5}, []int64{33, 34}))})
	after, root := checkStep(t, "new blocks that are written already", p, 33, in(9))
	check(t, "new blocks that are written already", []any{root, treeText(after, root), dirtyBlocks(after)}, []any{int64(35), "[(1 2 3 4) 5 (5 6 7 8 9)]", []int64{32, 33}})
	// The leaf that is released keeps its contents, and the next split writes what differs only.
	p = planted(t, "[(1 2 3 4) 10 (11 12 13 14) 20 (21 22 23 24)]")
	old, _ := impl.GetPage(p, 35)
	after, root = checkStep(t, "released", p, 33, out(1))
	data, _ := impl.GetPage(after, 35)
	check(t, "released", []any{data == old, dirtyBlocks(after), impl.IsAllocated(after, 35)}, []any{true, []int64{32, 33, 34}, false})
	// A released block that the transaction has changed before stays in it.
	p = planted(t, "[(1 2 3 4) 10 (11 12 13 14) 20 (21 22 23 24)]")
	p, root = checkStep(t, "before", p, 33, in(15))
	p, root = checkStep(t, "before", p, root, out(15))
	check(t, "before", dirtyBlocks(p), []int64{35})
	after, _ = checkStep(t, "released", p, root, out(2))
	data, _ = impl.GetPage(after, 35)
	check(t, "released", []any{data == old, dirtyBlocks(after)}, []any{true, []int64{32, 33, 34, 35}})
	// A page of the transaction that gets its old contents back is written there.
	after, root = checkStep(t, "back", planted(t, "(1 2 3)"), 33, in(4))
	after, _ = checkStep(t, "back", after, root, out(4))
	check(t, "back", after.Dirty, []impl.Page{pageAt(33, blockOfNode(leafOf(chunksOf(1, 2, 3)...)))})
	// The root that is released.
	p = planted(t, "[(1 2 3 4) 10 (11 12 13 14)]")
	old, _ = impl.GetPage(p, 33)
	after, root = checkStep(t, "root", p, 33, out(14))
	data, _ = impl.GetPage(after, 33)
	check(t, "root", []any{root, data == old, dirtyBlocks(after)}, []any{int64(34), true, []int64{32, 34}})
}

// crowded returns a store with the tree of a text and so many free blocks.
func crowded(t *testing.T, text string, free int64) impl.Pager {
	t.Helper()
	pages := pagesOfTree(text, numbersFrom(33, 99))
	last := pages[0].Block
	for _, page := range pages {
		last = max(last, page.Block)
	}
	return onDisk(t, 100, 30, append(pages, pagesAt("taken", numbersFrom(last+1, 99-free)...)...)...)
}

func TestP16StoresWithFewFreeBlocks(t *testing.T) {
	last := int64(0)
	full := rowText(&last, sizes(8, 8)...)
	for _, c := range []struct {
		text   string
		s      step
		needed int64
	}{
		{"(1 2 3 4 5 6 7)", in(8), 0}, {"(1 2 3 4 5 6 7 8)", in(8), 0}, {"(1 2 3 4 5 6 7 8)", in(9), 2}, {"[(1 2 3 4 5 6 7 8) 10 (11 12 13 14)]", in(9), 1}, {full, in(1), 3}, {full, in(last + 1), 3}, {full, in(2), 0},
		{rowsText(sizes(8, 8), sizes(4, 4)), in(1), 2}, {rowsText(sizes(8, 4), sizes(4, 4)), in(1), 0}, {"[(1 2 3 4) 5 (5 6 7 8)]", out(5), 0}, {"[(1 2 3 4) 5 (5 6 7 8)]", out(9), 0},
	} {
		for free := range int64(5) {
			p := crowded(t, c.text, free)
			check(t, "free blocks", impl.FreeCount(p), free)
			want := int64(impl.OK)
			if free < c.needed {
				want = impl.ErrFull
			}
			_, _, _, code := tryStep(t, c.text, p, 33, c.s)
			check(t, shown(c.text, c.s, "with free blocks", free), code, want)
		}
	}
}

// Transactions with room for as many pages as a change needs, and for one less.
func TestP16TransactionsWithLittleRoom(t *testing.T) {
	last := int64(0)
	full := rowText(&last, sizes(8, 8)...)
	for _, c := range []struct {
		text   string
		s      step
		needed int
	}{
		{"(1 2 3)", in(4), 1}, {"(1 2 3)", in(3), 0}, {"(1 2 3 4 5 6 7 8)", in(9), 4}, {"[(1 2 3 4 5 6 7 8) 10 (11 12 13 14)]", in(9), 4}, {"[(1 2 3 4 5) 10 (11 12 13 14)]", in(12), 0}, {"[(1 2 3 4 5) 10 (11 12 13 14)]", in(15), 1}, {full, in(1), 6}, {full, in(2), 0},
		{rowsText(sizes(8, 8), sizes(4, 4)), in(1), 6},
		{"(1 2 3)", out(3), 1}, {"(1 2 3)", out(4), 0}, {"[(1 2 3 4 5) 10 (11 12 13 14)]", out(12), 3}, {"[(1 2 3 4 5) 10 (11 12 13 14)]", out(5), 1}, {"[(1 2 3 4) 10 (11 12 13 14)]", out(12), 2}, {"[(1 2 3 4) 10 (11 12 13 14) 15 (15 16 17 18)]", out(12), 3}, {rowsText(sizes(4, 4), sizes(4, 4)), out(2), 3}, {rowsText(sizes(4, 4), sizes(5, 4)), out(2), 5}, {rowsText(sizes(4, 4), sizes(4, 4), sizes(4, 4)), out(2), 4},
	} {
		for _, log := range []int64{8, 12, 36, 64} {
			// The current transaction has other pages than those of the tree.
			pages := pagesOfTree(c.text, numbersFrom(log+3, 199))
			base := onDisk(t, 200, log, pages...)
			most := mostDirty(base.Super)
			for room := max(0, c.needed-2); room <= min(most, c.needed+1); room++ {
				p := base
				p.Dirty = pagesAt("dirty", numbersFrom(199-int64(most-room)+1, 199)...)
				want := int64(impl.OK)
				if room < c.needed {
					want = impl.ErrFull
				}
				_, _, _, code := tryStep(t, c.text, p, log+3, c.s)
				check(t, shown(c.text, c.s, "with room", room), code, want)
				_, code = checkFreeIndex(t, c.text, p, log+3)
				check(t, shown(c.text, "FreeIndex with room", room), code == impl.OK, room >= 1)
			}
			// All of its pages are those of the tree.
			if len(pages) <= most {
				p := base
				slices.SortFunc(pages, func(a, b impl.Page) int { return int(a.Block - b.Block) })
				p.Dirty = mergedPages(pages, pagesAt("dirty", numbersFrom(199-int64(most-len(pages))+1, 199)...))
				check(t, "pages of the transaction", len(p.Dirty), most)
				tryStep(t, c.text, p, log+3, c.s)
			}
		}
	}
}

// The blocks of the chunks stay allocated, and only those of the nodes are released.
func TestP16FreeingIndexes(t *testing.T) {
	for _, text := range []string{"()", "(1 2 3)", "[(1 2 3 4) 10 (11 12 13 14)]", threeLevels} {
		pages := pagesOfTree(text, numbersFrom(33, 99))
		count := int64(len(pages))
		p := onDisk(t, 100, 30, append(pages, pagesAt("chunk", numbersFrom(80, 90)...)...)...)
		root := int64(33)
		for k := int64(80); k <= 83; k++ {
			var code int64
			p, root, code = impl.InsertChunk(p, root, chunkAt(k+1000, k, 64, 0))
			check(t, "InsertChunk", code, int64(impl.OK))
		}
		blocks, _ := impl.IndexBlocks(p, root)
		after, code := checkFreeIndex(t, text, p, root)
		check(t, shown("FreeIndex", text), []any{code, impl.FreeCount(after)}, []any{int64(impl.OK), int64(67 - 11)})
		for k := int64(33); k < 100; k++ {
			check(t, shown("IsAllocated", k), impl.IsAllocated(after, k), isBetween(80, k, 90))
			old, _ := impl.GetPage(p, k)
			data, _ := impl.GetPage(after, k)
			check(t, shown("contents", k), data, old)
		}
		check(t, "blocks of the index", int64(len(blocks)) >= count, true)
		for _, k := range blocks {
			checkNoIndex(t, "an index that was freed", after, k)
		}
		// A subtree can be freed, too, which leaves no index.
		if len(blocks) > 1 {
			after, code = checkFreeIndex(t, text, p, blocks[1])
			check(t, "FreeIndex of a subtree", code, int64(impl.OK))
			checkNoIndex(t, "an index without a subtree", after, root)
		}
	}
}

// Every combination of the causes of an error.
func TestP16OrderOfErrors(t *testing.T) {
	codes := map[string]int{}
	for bits := range 64 {
		last := int64(0)
		p := crowded(t, rowText(&last, sizes(4, 8)...), 3)
		root, c, key := int64(33), chunkOf(7), int64(8)
		for i, cause := range []func(){
			func() { p.Dirty = pagesAt("dirty", numbersFrom(70, 96)...) }, func() { _, area := areaOf(p); p = withArea(p, 0, withBits(area, true, 97, 98, 99)) }, func() { p.At = 31 }, func() { root = 50 }, func() { c.At = 256 }, func() { key = 65536 },
		} {
			if bits>>i&1 == 1 {
				cause()
			}
		}
		what := shown("errors", bits)
		_, _, code := checkInsert(t, what, p, root, c)
		codes[shown("insert", code)]++
		_, _, found, code := checkDelete(t, what, p, root, key)
		codes[shown("delete", code, found)]++
		_, code = checkFreeIndex(t, what, p, root)
		codes[shown("free", code)]++
		_, _, code = checkNewIndex(t, what, p)
		codes[shown("new", code)]++
		_, _, code = checkIndex(t, what, p, root)
		codes[shown("read", code)]++
	}
	check(t, "codes", codes, map[string]int{
		"[insert 0]": 2, "[insert 1]": 48, "[insert 10]": 8, "[insert 5]": 6, "[delete 1 false]": 32, "[delete 10 false]": 16, "[delete 0 false]": 8, "[delete 0 true]": 8,
		"[free 0]": 16, "[free 1]": 32, "[free 10]": 16, "[new 0]": 8, "[new 1]": 32, "[new 5]": 24, "[read 0]": 16, "[read 1]": 32, "[read 10]": 16,
	})
}

func TestP16PagersThatAreNotValid(t *testing.T) {
	for i, p := range badPagers() {
		what := shown("bad", i)
		_, _, code := checkNewIndex(t, what, p)
		codes := []int64{code}
		for _, root := range []int64{0, 12, 20, 39, math.MaxInt64} {
			_, _, code = checkIndex(t, what, p, root)
			codes = append(codes, code)
			_, _, code = checkInsert(t, what, p, root, chunkOf(3))
			codes = append(codes, code)
			_, _, code = checkInsert(t, what, p, root, impl.Chunk{})
			codes = append(codes, code)
			_, _, _, code = checkDelete(t, what, p, root, 3)
			codes = append(codes, code)
			_, code = checkFreeIndex(t, what, p, root)
			codes = append(codes, code)
		}
		check(t, what, codes, slices.Repeat([]int64{impl.ErrInvalid}, 26))
	}
}

// Drawn changes of drawn trees, the blocks of which are in any order.
func TestP16DrawnTrees(t *testing.T) {
	m := newTypeMaker(113)
	counts := map[string]int{}
	for range 250 {
		last := int64(0)
		levels := []int{0, 1, 2, 2, 3}[m.IntN(5)]
		text := m.drawTree(levels, &last, true)
		blocks := numbersFrom(23, 255)
		m.Shuffle(len(blocks), func(i, j int) { blocks[i], blocks[j] = blocks[j], blocks[i] })
		if levels == 3 && strings.Count(text, "(")+strings.Count(text, "[") > 200 {
			continue
		}
		root := blocks[0]
		p := onDisk(t, 256, 20, pagesOfTree(text, blocks)...)
		model := modelOf(chunksOf(keysIn(text)...))
		_, _, code := checkIndex(t, text, p, root)
		check(t, text, code, int64(impl.OK))
		for range 12 {
			var s step
			keys := slices.Sorted(maps.Keys(model))
			if m.IntN(2) == 0 && len(keys) > 0 {
				s = out(keys[m.IntN(len(keys))])
				delete(model, s.key)
			} else {
				s = in(m.Int64N(last + 10))
				model[s.key] = chunkOf(s.key)
			}
			p, root = checkStep(t, text, p, root, s)
			counts[shown(s.isOut, len(p.Dirty))]++
			checkOnly(t, text, p, root, model)
			p, _ = impl.Commit(p)
		}
	}
	for _, name := range []string{"false 1", "false 4", "false 6", "true 1", "true 3", "true 5"} {
		if counts["["+name+"]"] < 10 {
			t.Errorf("too few of %s: %v", name, counts)
		}
	}
}

// indexes is a store with what is known of its indexes.
type indexes struct {
	t      *testing.T
	m      typeMaker
	p      impl.Pager
	models map[int64]map[int64]impl.Chunk
	codes  map[string]int
}

// copyOf returns the models in other memory.
func copyOf(models map[int64]map[int64]impl.Chunk) map[int64]map[int64]impl.Chunk {
	list := map[int64]map[int64]impl.Chunk{}
	for root, model := range models {
		list[root] = maps.Clone(model)
	}
	return list
}

// act makes one drawn change, and takes it over if it succeeds.
func (x *indexes) act() {
	roots := slices.Sorted(maps.Keys(x.models))
	if len(roots) == 0 || len(roots) < 3 && x.m.IntN(6) == 0 {
		p, root, code := checkNewIndex(x.t, "history", x.p)
		x.codes[shown("new", code)]++
		if code == impl.OK {
			x.p, x.models[root] = p, map[int64]impl.Chunk{}
		}
		return
	}
	root := roots[x.m.IntN(len(roots))]
	model := x.models[root]
	keys := slices.Sorted(maps.Keys(model))
	switch kind := x.m.IntN(60); {
	case kind == 0:
		p, code := checkFreeIndex(x.t, "history", x.p, root)
		x.codes[shown("free", code)]++
		if code == impl.OK {
			x.p = p
			delete(x.models, root)
		}
	case kind < 20 && len(keys) > 0:
		key := keys[x.m.IntN(len(keys))] + []int64{0, 0, 0, 1}[x.m.IntN(4)]
		_, wantFound := model[key]
		p, newRoot, found, code := checkDelete(x.t, "history", x.p, root, key)
		x.codes[shown("delete", found, code)]++
		if code == impl.OK {
			check(x.t, "found", found, wantFound)
			delete(model, key)
			delete(x.models, root)
			x.p, x.models[newRoot] = p, model
		}
	default:
		c := chunkAt(x.m.between(0, 90), x.m.between(1, 255), x.m.between(0, 65535), x.m.between(0, 255))
		p, newRoot, code := checkInsert(x.t, "history", x.p, root, c)
		x.codes[shown("insert", code)]++
		if code == impl.OK {
			model[c.Key] = c
			delete(x.models, root)
			x.p, x.models[newRoot] = p, model
		}
	}
}

// checkAll checks that all indexes contain what they should, and that their
// blocks are exactly those that are allocated, each in one index only.
func (x *indexes) checkAll() {
	x.t.Helper()
	var lists [][]int64
	for root, model := range x.models {
		lists = append(lists, checkContents(x.t, "history", x.p, root, model))
	}
	checkOwners(x.t, "history", x.p, lists...)
}

// Histories of several indexes in one store, with transactions that are
// abandoned and power cuts behind a synchronization.
func TestP16Histories(t *testing.T) {
	m := newTypeMaker(114)
	codes := map[string]int{}
	for range 16 {
		blocks := []int64{24, 32, 60, 120}[m.IntN(4)]
		x := &indexes{t, m, emptyStore(t, blocks, []int64{8, 9, 12, 16}[m.IntN(4)]), map[int64]map[int64]impl.Chunk{}, codes}
		kept := copyOf(x.models)
		for range 120 {
			code := int64(impl.OK)
			switch kind := m.IntN(40); {
			case kind == 0:
				x.p, code = impl.Discard(x.p)
				x.models = copyOf(kept)
			case kind == 1:
				x.p, code = impl.Sync(x.p)
				check(t, "Sync", code, int64(impl.OK))
				var d impl.Disk
				d, _ = impl.CutPower(x.p.Disk, nil, -1, 0)
				x.p, code = impl.OpenPager(d)
				x.models = copyOf(kept)
			case kind < 9:
				x.p, code = impl.Commit(x.p)
				kept = copyOf(x.models)
			default:
				x.act()
			}
			check(t, "code", code, int64(impl.OK))
			x.checkAll()
		}
	}
	for _, name := range []string{"new 0", "insert 0", "insert 5", "delete true 0", "delete false 0", "free 0"} {
		if codes["["+name+"]"] < 8 {
			t.Errorf("too few of %s: %v", name, codes)
		}
	}
}

// indexResults returns what all functions of the chapter return.
func indexResults(p impl.Pager, root, key int64, c impl.Chunk, n impl.Node, block string) []any {
	decoded, ok := impl.DecodeNode(block)
	created, at, createdCode := impl.NewIndex(p)
	chunk, found, foundCode := impl.FindChunk(p, root, key)
	inserted, insertedRoot, insertedCode := impl.InsertChunk(p, root, c)
	deleted, deletedRoot, isDeleted, deletedCode := impl.DeleteChunk(p, root, key)
	chunks, chunksCode := impl.ChunksOf(p, root)
	blocks, blocksCode := impl.IndexBlocks(p, root)
	freed, freedCode := impl.FreeIndex(p, root)
	return []any{impl.ValidNode(n), impl.EncodeNode(n), decoded, ok, created, at, createdCode, chunk, found, foundCode, inserted, insertedRoot, insertedCode, deleted, deletedRoot, isDeleted, deletedCode, chunks, chunksCode, blocks, blocksCode, freed, freedCode}
}

func TestP1IndexesReturnForAllArguments(t *testing.T) {
	numbers, texts := oddNumbers(), oddStrings()
	pagers := append(badPagers(), fullPager(), planted(t, threeLevels), planted(t, "[(2 4 6 8) 9 (10 12 14 16)]"), damaged(t, threeLevels, 34, blockOfNode(innerOf([]int64{10}, []int64{33, 33}))))
	nodes := append(badNodes(), goodNodes()...)
	for i, number := range numbers {
		c := chunkAt(number, numbers[i*3%len(numbers)], numbers[i*5%len(numbers)], numbers[i*7%len(numbers)])
		n := nodes[i*11%len(nodes)]
		wild := impl.Node{Leaf: i%2 == 0, Chunks: []impl.Chunk{c, c}, Keys: numbers[:i%9], Kids: numbers[:(i+1)%9]}
		block := strings.Repeat(texts[i*13%len(texts)], i*37%200)
		for _, p := range append(pagers[len(pagers)-4:], pagers[i*5%len(pagers)]) {
			checkShown(t, "second call", shown(indexResults(roomyPager(p), number, number, c, roomyNode(n), block)...), shown(indexResults(p, number, number, c, n, block)...))
			checkShown(t, "second call", shown(indexResults(roomyPager(p), 33, number, c, roomyNode(wild), block)...), shown(indexResults(p, 33, number, c, wild, block)...))
		}
	}
}

func TestP1IndexesAreNotModified(t *testing.T) {
	m := newTypeMaker(115)
	for range 200 {
		last := int64(0)
		text := m.drawTree(m.IntN(3), &last, true)
		p := planted(t, text)
		pages := pagesOfTree(text, numbersFrom(33, 99))
		for _, page := range pages {
			if m.IntN(3) == 0 && len(p.Dirty) < 5 {
				p.Dirty = mergedPages(p.Dirty, []impl.Page{page})
			}
		}
		p.Logged = m.drawPages(5, 80, 99)
		p = roomyPager(p)
		keys := append(keysIn(text), 7)
		n := roomyNode(slices.Concat(goodNodes(), badNodes())[m.IntN(60)])
		root, key, c, block := []int64{33, 33, 33, 34}[m.IntN(4)], keys[m.IntN(len(keys))], chunkOf(m.Int64N(last+5)), blockOfNode(goodNodes()[m.IntN(20)])
		before := shown(widePager(p), wideNode(n))
		results := indexResults(p, root, key, c, n, block)
		checkNew(t, "results", []any{p, n}, results...)
		first := shown(results...)
		second := shown(indexResults(p, root, key, c, n, block)...)
		checkShown(t, "the arguments after the calls", shown(widePager(p), wideNode(n)), before)
		checkShown(t, "second call", second, first)
	}
}
