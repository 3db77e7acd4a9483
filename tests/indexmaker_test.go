package tests

import (
	"fmt"
	"maps"
	"slices"
	"strconv"
	"strings"
	"testing"

	"loop.example/g00904/impl"
)

func chunkAt(key, at, size, mask int64) impl.Chunk {
	return impl.Chunk{Key: key, At: at, Size: size, Mask: mask}
}

// chunkOf returns a chunk with a key; the chunks of different keys differ.
func chunkOf(key int64) impl.Chunk {
	return chunkAt(key, 1+key%255, 65535-key, key%256)
}

// chunksOf returns the chunks of some keys.
func chunksOf(keys ...int64) []impl.Chunk {
	var list []impl.Chunk
	for _, key := range keys {
		list = append(list, chunkOf(key))
	}
	return list
}

func leafOf(chunks ...impl.Chunk) impl.Node {
	return impl.Node{Leaf: true, Chunks: chunks}
}

func innerOf(keys, kids []int64) impl.Node {
	return impl.Node{Keys: keys, Kids: kids}
}

// isChunk tells whether a chunk is valid.
func isChunk(c impl.Chunk) bool {
	return isBetween(0, c.Key, 65535) && isBetween(1, c.At, 255) && isBetween(0, c.Size, 65535) && isBetween(0, c.Mask, 255)
}

// isNode tells what impl.ValidNode should tell.
func isNode(n impl.Node) bool {
	if n.Leaf {
		ok := len(n.Keys) == 0 && len(n.Kids) == 0 && len(n.Chunks) <= 8
		for i, c := range n.Chunks {
			ok = ok && isChunk(c) && (i == 0 || n.Chunks[i-1].Key < c.Key)
		}
		return ok
	}
	ok := len(n.Chunks) == 0 && isBetween(1, int64(len(n.Keys)), 7) && len(n.Kids) == len(n.Keys)+1
	for i, key := range n.Keys {
		ok = ok && isBetween(0, key, 65535) && (i == 0 || n.Keys[i-1] < key)
	}
	for _, kid := range n.Kids {
		ok = ok && isBetween(1, kid, 255)
	}
	return ok
}

// blockOfNode tells what impl.EncodeNode should return for a valid node. Other
// nodes have blocks too if they are not too long.
func blockOfNode(n impl.Node) string {
	var b []byte
	two := func(number int64) { b = append(b, byte(number), byte(number/256)) }
	if n.Leaf {
		b = append(b, 1, byte(len(n.Chunks)))
		for _, c := range n.Chunks {
			two(c.Key)
			two(c.At)
			two(c.Size)
			b = append(b, byte(c.Mask))
		}
	} else {
		b = append(b, 2, byte(len(n.Keys)))
		for _, kid := range n.Kids {
			two(kid)
		}
		for _, key := range n.Keys {
			two(key)
		}
	}
	return string(b) + strings.Repeat("\x00", 64-len(b))
}

// nodeFrom tells what impl.DecodeNode should return.
func nodeFrom(block string) (impl.Node, bool) {
	if len(block) != 64 {
		return impl.Node{}, false
	}
	n, used := impl.Node{}, 2
	two := func() int64 {
		used += 2
		return int64(block[used-2]) + 256*int64(block[used-1])
	}
	count := int(block[1])
	switch {
	case block[0] == 1 && count <= 8:
		n.Leaf = true
		for range count {
			c := impl.Chunk{Key: two()}
			c.At = two()
			c.Size = two()
			c.Mask = int64(block[used])
			used++
			n.Chunks = append(n.Chunks, c)
		}
	case block[0] == 2 && count <= 7:
		for range count + 1 {
			n.Kids = append(n.Kids, two())
		}
		for range count {
			n.Keys = append(n.Keys, two())
		}
	default:
		return impl.Node{}, false
	}
	if strings.Trim(block[used:], "\x00") != "" || !isNode(n) {
		return impl.Node{}, false
	}
	return n, true
}

// index is a chunk index as a table of its nodes by their blocks.
type index struct {
	p     impl.Pager
	root  int64
	nodes map[int64]impl.Node
}

// indexIn returns the index with a root, and OK, if it is valid.
func indexIn(p impl.Pager, root int64) (*index, int64) {
	if !isPager(p) {
		return nil, impl.ErrInvalid
	}
	x := &index{p, root, map[int64]impl.Node{}}
	level := []int64{root}
	for depth := 1; len(level) > 0; depth++ {
		var next []int64
		leaves := 0
		for _, k := range level {
			if _, known := x.nodes[k]; known || !isDataBlock(p, k) || !isUsed(p, k) {
				return nil, impl.ErrCorrupt
			}
			n, ok := nodeFrom(inDirty(p, k))
			if !ok {
				return nil, impl.ErrCorrupt
			}
			x.nodes[k] = n
			next = append(next, n.Kids...)
			if n.Leaf {
				leaves++
			}
		}
		if leaves != 0 && leaves != len(level) || depth > 8 {
			return nil, impl.ErrCorrupt
		}
		level = next
	}
	for k, n := range x.nodes {
		if k != root && x.isLow(k) || !x.hasKeysInBounds(n) {
			return nil, impl.ErrCorrupt
		}
	}
	return x, impl.OK
}

// isLow reports whether a node would have too few chunks or keys if it is not the root.
func (x *index) isLow(k int64) bool {
	n := x.nodes[k]
	return n.Leaf && len(n.Chunks) < 4 || !n.Leaf && len(n.Keys) < 3
}

func (x *index) hasKeysInBounds(n impl.Node) bool {
	for i, kid := range n.Kids {
		for _, k := range x.preorder(kid) {
			keys := slices.Clone(x.nodes[k].Keys)
			for _, c := range x.nodes[k].Chunks {
				keys = append(keys, c.Key)
			}
			for _, key := range keys {
				if i < len(n.Keys) && key >= n.Keys[i] || i > 0 && key < n.Keys[i-1] {
					return false
				}
			}
		}
	}
	return true
}

// preorder returns the blocks of a subtree.
func (x *index) preorder(k int64) []int64 {
	list := []int64{k}
	for _, kid := range x.nodes[k].Kids {
		list = append(list, x.preorder(kid)...)
	}
	return list
}

// chunks returns all chunks in order.
func (x *index) chunks() []impl.Chunk {
	var list []impl.Chunk
	for _, k := range x.preorder(x.root) {
		list = append(list, x.nodes[k].Chunks...)
	}
	return list
}

// pathTo returns the blocks from the root to the leaf to which a key belongs.
func (x *index) pathTo(key int64) []int64 {
	path := []int64{x.root}
	for {
		n := x.nodes[path[len(path)-1]]
		if n.Leaf {
			return path
		}
		i := 0
		for _, k := range n.Keys {
			if k <= key {
				i++
			}
		}
		path = append(path, n.Kids[i])
	}
}

// written returns the pager with all nodes that have other blocks, and the root.
func (x *index) written() (impl.Pager, int64, int64) {
	p, code := x.p, int64(impl.OK)
	for _, k := range x.preorder(x.root) {
		if block := blockOfNode(x.nodes[k]); inDirty(p, k) != block {
			if p, code = setIn(p, k, block); code != impl.OK {
				return impl.Pager{}, 0, code
			}
		}
	}
	return p, x.root, impl.OK
}

// allocate returns a block for a new node, and stores the node.
func (x *index) allocate(n impl.Node) (at, code int64) {
	p, at, code := allocatedIn(x.p, 1)
	if code == impl.OK {
		x.p, x.nodes[at] = p, n
	}
	return at, code
}

func (x *index) release(k int64) int64 {
	p, code := releasedIn(x.p, k, 1)
	if code == impl.OK {
		x.p = p
		delete(x.nodes, k)
	}
	return code
}

// insertedIn tells what impl.InsertChunk should return.
func insertedIn(p impl.Pager, root int64, c impl.Chunk) (impl.Pager, int64, int64) {
	if !isPager(p) || !isChunk(c) {
		return impl.Pager{}, 0, impl.ErrInvalid
	}
	x, code := indexIn(p, root)
	if code != impl.OK {
		return impl.Pager{}, 0, code
	}
	path := x.pathTo(c.Key)
	leaf := x.nodes[path[len(path)-1]]
	list := slices.DeleteFunc(leaf.Chunks, func(old impl.Chunk) bool { return old.Key == c.Key })
	list = append(list, c)
	slices.SortFunc(list, func(a, b impl.Chunk) int { return int(a.Key - b.Key) })
	x.nodes[path[len(path)-1]] = leafOf(list...)
	for len(path) > 0 {
		k := path[len(path)-1]
		path = path[:len(path)-1]
		n := x.nodes[k]
		if len(n.Chunks) <= 8 && len(n.Keys) <= 7 {
			break
		}
		first, key, second := halvesOf(n)
		x.nodes[k] = first
		at, code := x.allocate(second)
		if code != impl.OK {
			return impl.Pager{}, 0, code
		}
		if len(path) == 0 {
			x.root, code = x.allocate(innerOf([]int64{key}, []int64{k, at}))
			if code != impl.OK {
				return impl.Pager{}, 0, code
			}
			break
		}
		above := x.nodes[path[len(path)-1]]
		i := slices.Index(above.Kids, k)
		above.Keys = slices.Insert(slices.Clone(above.Keys), i, key)
		above.Kids = slices.Insert(slices.Clone(above.Kids), i+1, at)
		x.nodes[path[len(path)-1]] = above
	}
	return x.written()
}

// halvesOf returns what a node with an entry too many becomes.
func halvesOf(n impl.Node) (first impl.Node, key int64, second impl.Node) {
	if n.Leaf {
		return leafOf(n.Chunks[0], n.Chunks[1], n.Chunks[2], n.Chunks[3]), n.Chunks[4].Key, leafOf(n.Chunks[4], n.Chunks[5], n.Chunks[6], n.Chunks[7], n.Chunks[8])
	}
	return innerOf(n.Keys[0:4], n.Kids[0:5]), n.Keys[4], innerOf(n.Keys[5:8], n.Kids[5:9])
}

// deletedIn tells what impl.DeleteChunk should return.
func deletedIn(p impl.Pager, root, key int64) (impl.Pager, int64, bool, int64) {
	x, code := indexIn(p, root)
	if code != impl.OK {
		return impl.Pager{}, 0, false, code
	}
	path := x.pathTo(key)
	leaf := x.nodes[path[len(path)-1]]
	i := slices.IndexFunc(leaf.Chunks, func(c impl.Chunk) bool { return c.Key == key })
	if i < 0 {
		return p, root, false, impl.OK
	}
	x.nodes[path[len(path)-1]] = leafOf(slices.Delete(slices.Clone(leaf.Chunks), i, i+1)...)
	for i := len(path) - 1; i > 0 && x.isLow(path[i]) && code == impl.OK; i-- {
		code = x.fill(path[i-1], path[i])
	}
	if top := x.nodes[x.root]; code == impl.OK && len(top.Kids) == 1 {
		code = x.release(x.root)
		x.root = top.Kids[0]
	}
	if code != impl.OK {
		return impl.Pager{}, 0, false, code
	}
	after, root, code := x.written()
	return after, root, code == impl.OK, code
}

// fill does what the document says of a node with too few entries.
func (x *index) fill(parent, node int64) int64 {
	above := innerOf(slices.Clone(x.nodes[parent].Keys), slices.Clone(x.nodes[parent].Kids))
	i := slices.Index(above.Kids, node)
	var code int64
	if i > 0 {
		code = x.fillFromBefore(&above, i)
	} else {
		code = x.fillFromBehind(&above)
	}
	x.nodes[parent] = above
	return code
}

// fillFromBefore is for child i, whose sibling is child i - 1.
func (x *index) fillFromBefore(above *impl.Node, i int) int64 {
	at, from := above.Kids[i], above.Kids[i-1]
	n, s := x.nodes[at], x.nodes[from]
	chunks, keys, kids := len(s.Chunks), len(s.Keys), len(s.Kids)
	switch {
	case n.Leaf && chunks > 4:
		x.nodes[at] = leafOf(append([]impl.Chunk{s.Chunks[chunks-1]}, n.Chunks...)...)
		x.nodes[from] = leafOf(s.Chunks[:chunks-1]...)
		above.Keys[i-1] = s.Chunks[chunks-1].Key
		return impl.OK
	case !n.Leaf && keys > 3:
		x.nodes[at] = innerOf(append([]int64{above.Keys[i-1]}, n.Keys...), append([]int64{s.Kids[kids-1]}, n.Kids...))
		x.nodes[from] = innerOf(s.Keys[:keys-1], s.Kids[:kids-1])
		above.Keys[i-1] = s.Keys[keys-1]
		return impl.OK
	}
	return x.merge(above, i-1)
}

// fillFromBehind is for the first child, whose sibling is the second one.
func (x *index) fillFromBehind(above *impl.Node) int64 {
	at, from := above.Kids[0], above.Kids[1]
	n, s := x.nodes[at], x.nodes[from]
	switch {
	case n.Leaf && len(s.Chunks) > 4:
		x.nodes[at] = leafOf(append(slices.Clone(n.Chunks), s.Chunks[0])...)
		x.nodes[from] = leafOf(s.Chunks[1:]...)
		above.Keys[0] = s.Chunks[1].Key
		return impl.OK
	case !n.Leaf && len(s.Keys) > 3:
		x.nodes[at] = innerOf(append(slices.Clone(n.Keys), above.Keys[0]), append(slices.Clone(n.Kids), s.Kids[0]))
		x.nodes[from] = innerOf(s.Keys[1:], s.Kids[1:])
		above.Keys[0] = s.Keys[0]
		return impl.OK
	}
	return x.merge(above, 0)
}

// merge merges children i and i + 1.
func (x *index) merge(above *impl.Node, i int) int64 {
	left, right := above.Kids[i], above.Kids[i+1]
	a, b := x.nodes[left], x.nodes[right]
	if a.Leaf {
		x.nodes[left] = leafOf(slices.Concat(a.Chunks, b.Chunks)...)
	} else {
		x.nodes[left] = innerOf(slices.Concat(a.Keys, []int64{above.Keys[i]}, b.Keys), slices.Concat(a.Kids, b.Kids))
	}
	above.Keys = slices.Delete(above.Keys, i, i+1)
	above.Kids = slices.Delete(above.Kids, i+1, i+2)
	return x.release(right)
}

// newIn tells what impl.NewIndex should return.
func newIn(p impl.Pager) (impl.Pager, int64, int64) {
	p, at, code := allocatedIn(p, 1)
	if code == impl.OK {
		p, code = setIn(p, at, blockOfNode(leafOf()))
	}
	if code != impl.OK {
		return impl.Pager{}, 0, code
	}
	return p, at, impl.OK
}

// withoutIndex tells what impl.FreeIndex should return.
func withoutIndex(p impl.Pager, root int64) (impl.Pager, int64) {
	x, code := indexIn(p, root)
	if code != impl.OK {
		return impl.Pager{}, code
	}
	for _, k := range x.preorder(root) {
		if p, code = releasedIn(p, k, 1); code != impl.OK {
			return impl.Pager{}, code
		}
	}
	return p, impl.OK
}

func checkNewIndex(t *testing.T, what string, p impl.Pager) (impl.Pager, int64, int64) {
	t.Helper()
	what = shown(what, "NewIndex")
	want, wantAt, wantCode := newIn(p)
	after, at, code := impl.NewIndex(p)
	checkPager(t, what, after, code, want, wantCode, p)
	check(t, what, at, wantAt)
	return after, at, code
}

func checkInsert(t *testing.T, what string, p impl.Pager, root int64, c impl.Chunk) (impl.Pager, int64, int64) {
	t.Helper()
	what = shown(what, "InsertChunk", root, c)
	want, wantRoot, wantCode := insertedIn(p, root, c)
	after, newRoot, code := impl.InsertChunk(p, root, c)
	checkPager(t, what, after, code, want, wantCode, p)
	check(t, what, newRoot, wantRoot)
	return after, newRoot, code
}

func checkDelete(t *testing.T, what string, p impl.Pager, root, key int64) (impl.Pager, int64, bool, int64) {
	t.Helper()
	what = shown(what, "DeleteChunk", root, key)
	want, wantRoot, wantFound, wantCode := deletedIn(p, root, key)
	after, newRoot, found, code := impl.DeleteChunk(p, root, key)
	checkPager(t, what, after, code, want, wantCode, p)
	check(t, what, []any{newRoot, found}, []any{wantRoot, wantFound})
	return after, newRoot, found, code
}

func checkFreeIndex(t *testing.T, what string, p impl.Pager, root int64) (impl.Pager, int64) {
	t.Helper()
	want, wantCode := withoutIndex(p, root)
	after, code := impl.FreeIndex(p, root)
	checkPager(t, shown(what, "FreeIndex", root), after, code, want, wantCode, p)
	return after, code
}

// checkFind checks what is found of some keys.
func checkFind(t *testing.T, what string, p impl.Pager, root int64, keys ...int64) {
	t.Helper()
	x, wantCode := indexIn(p, root)
	found := map[int64]impl.Chunk{}
	if wantCode == impl.OK {
		for _, c := range x.chunks() {
			found[c.Key] = c
		}
	}
	for _, key := range keys {
		want, wantOk := found[key]
		c, ok, code := impl.FindChunk(p, root, key)
		check(t, shown(what, "FindChunk", root, key), []any{c, ok, code}, []any{want, wantOk, wantCode})
	}
}

// checkIndex checks what is read of a number, which need not be the root of an index.
func checkIndex(t *testing.T, what string, p impl.Pager, root int64) ([]impl.Chunk, []int64, int64) {
	t.Helper()
	x, wantCode := indexIn(p, root)
	var want []impl.Chunk
	var wantBlocks []int64
	if wantCode == impl.OK {
		want, wantBlocks = x.chunks(), x.preorder(root)
	}
	chunks, code := impl.ChunksOf(p, root)
	blocks, blocksCode := impl.IndexBlocks(p, root)
	checkValues(t, shown(what, "index", root), []any{chunks, code, blocks, blocksCode}, []any{want, wantCode, wantBlocks, wantCode})
	checkNew(t, what, []any{p}, chunks, blocks)
	keys := []int64{-1, 0, 65535, 65536}
	// All keys of a small index, and some of a large one.
	for i := 0; i < len(want); i += 1 + len(want)/20 {
		keys = append(keys, want[i].Key-1, want[i].Key, want[i].Key+1)
	}
	checkFind(t, what, p, root, keys...)
	return chunks, blocks, code
}

// treeText returns the keys of an index. A leaf is written like (1 2 3 4), and
// an inner node like [(1 2 3 4) 5 (5 6 7 8)].
func treeText(p impl.Pager, root int64) string {
	data, _ := impl.GetPage(p, root)
	n, ok := nodeFrom(data)
	if !ok {
		return "?"
	}
	var words []string
	for _, c := range n.Chunks {
		words = append(words, strconv.FormatInt(c.Key, 10))
	}
	if n.Leaf {
		return "(" + strings.Join(words, " ") + ")"
	}
	for i, kid := range n.Kids {
		words = append(words, treeText(p, kid))
		if i < len(n.Keys) {
			words = append(words, strconv.FormatInt(n.Keys[i], 10))
		}
	}
	return "[" + strings.Join(words, " ") + "]"
}

// pagesOfTree returns the pages of the tree that a text describes; its nodes
// are, in preorder, in some blocks.
func pagesOfTree(text string, blocks []int64) []impl.Page {
	for _, bracket := range []string{"(", ")", "[", "]"} {
		text = strings.ReplaceAll(text, bracket, " "+bracket+" ")
	}
	words := strings.Fields(text)
	var pages []impl.Page
	var read func() int64
	read = func() int64 {
		at := blocks[0]
		blocks = blocks[1:]
		n := impl.Node{Leaf: words[0] == "("}
		for words = words[1:]; words[0] != ")" && words[0] != "]"; {
			if words[0] == "(" || words[0] == "[" {
				n.Kids = append(n.Kids, read())
				continue
			}
			key, _ := strconv.ParseInt(words[0], 10, 64)
			words = words[1:]
			if n.Leaf {
				n.Chunks = append(n.Chunks, chunkOf(key))
			} else {
				n.Keys = append(n.Keys, key)
			}
		}
		words = words[1:]
		pages = append(pages, pageAt(at, blockOfNode(n)))
		return at
	}
	read()
	return pages
}

// planted returns a store of 100 blocks with the tree that a text describes,
// whose root is block 33; the other nodes are behind it in preorder.
func planted(t *testing.T, text string) impl.Pager {
	t.Helper()
	p := onDisk(t, 100, 30, pagesOfTree(text, numbersFrom(33, 99))...)
	check(t, "planted tree", treeText(p, 33), text)
	return p
}

// leafText returns a leaf with so many chunks, the keys of which are even and
// follow the last one.
func leafText(last *int64, chunks int) string {
	var words []string
	for range chunks {
		*last += 2
		words = append(words, strconv.FormatInt(*last, 10))
	}
	return "(" + strings.Join(words, " ") + ")"
}

// rowText returns an inner node whose leaves have so many chunks. A key between
// two of them is that of a chunk, or less, by turns.
func rowText(last *int64, sizes ...int) string {
	var words []string
	for i, size := range sizes {
		if i > 0 {
			words = append(words, strconv.FormatInt(*last+2-int64(i)%2, 10))
		}
		words = append(words, leafText(last, size))
	}
	return "[" + strings.Join(words, " ") + "]"
}

// rowsText returns a root above inner nodes.
func rowsText(rows ...[]int) string {
	last := int64(0)
	var words []string
	for i, sizes := range rows {
		if i > 0 {
			words = append(words, strconv.FormatInt(last+1+int64(i)%2, 10))
		}
		words = append(words, rowText(&last, sizes...))
	}
	return "[" + strings.Join(words, " ") + "]"
}

// sizes returns so many equal numbers.
func sizes(count, size int) []int {
	return slices.Repeat([]int{size}, count)
}

// drawTree returns the text of a valid tree with inner nodes at so many levels.
func (m typeMaker) drawTree(levels int, last *int64, isRoot bool) string {
	few := 4
	if isRoot {
		few = 0
	}
	if levels == 0 {
		*last += m.Int64N(3)
		return leafText(last, []int{max(few, 1), max(few, 4), 8, few + m.IntN(9-few)}[m.IntN(4)])
	}
	count := []int{max(few, 2), max(few, 4), 8, max(few, 2) + m.IntN(9-max(few, 2))}[m.IntN(4)]
	if levels > 1 && isRoot {
		count = 2 + m.IntN(2)
	}
	var words []string
	for i := range count {
		if i > 0 {
			*last += m.Int64N(4)
			words = append(words, strconv.FormatInt(*last+1+m.Int64N(2), 10))
			*last++
		}
		words = append(words, m.drawTree(levels-1, last, false))
	}
	return "[" + strings.Join(words, " ") + "]"
}

// keysIn returns the keys of the chunks in the text of a tree.
func keysIn(text string) []int64 {
	var list []int64
	for _, part := range strings.Split(text, "(")[1:] {
		leaf, _, _ := strings.Cut(part, ")")
		for _, word := range strings.Fields(leaf) {
			key, _ := strconv.ParseInt(word, 10, 64)
			list = append(list, key)
		}
	}
	return list
}

// dirtyBlocks returns the blocks of the current transaction.
func dirtyBlocks(p impl.Pager) []int64 {
	var list []int64
	for _, page := range p.Dirty {
		list = append(list, page.Block)
	}
	return list
}

// modelOf returns chunks by their keys.
func modelOf(chunks []impl.Chunk) map[int64]impl.Chunk {
	model := map[int64]impl.Chunk{}
	for _, c := range chunks {
		model[c.Key] = c
	}
	return model
}

// sortedChunks returns the chunks of a model in the order of their keys.
func sortedChunks(model map[int64]impl.Chunk) []impl.Chunk {
	var list []impl.Chunk
	for _, key := range slices.Sorted(maps.Keys(model)) {
		list = append(list, model[key])
	}
	return list
}

func roomyNode(n impl.Node) impl.Node {
	n.Chunks = append(slices.Clone(n.Chunks), chunkOf(7), chunkAt(-1, 0, 0, 0))[:len(n.Chunks)]
	n.Keys = append(slices.Clone(n.Keys), 7, -1)[:len(n.Keys)]
	n.Kids = append(slices.Clone(n.Kids), 7, -1)[:len(n.Kids)]
	return n
}

// wideNode returns a copy of a node with all that its slices have room for.
func wideNode(n impl.Node) impl.Node {
	n.Chunks, n.Keys, n.Kids = slices.Clone(n.Chunks[:cap(n.Chunks)]), slices.Clone(n.Keys[:cap(n.Keys)]), slices.Clone(n.Kids[:cap(n.Kids)])
	return n
}

// sameNodes reports whether nodes are equal, where nil and empty slices are.
func sameNodes(a, b impl.Node) bool {
	return fmt.Sprintf("%+v", a) == fmt.Sprintf("%+v", b)
}
