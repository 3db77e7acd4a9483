package tests

import (
	"slices"
	"testing"

	"loop.example/g00904/impl"
)

// areaOf returns the number of the allocation page, and its contents.
func areaOf(p impl.Pager) (int64, string) {
	k := p.Super.Log + 2
	return k, inDirty(p, k)
}

func isDataBlock(p impl.Pager, k int64) bool {
	return isBetween(p.Super.Log+3, k, p.Super.Blocks-1)
}

// areDataBlocks reports whether there are blocks from at on, and all are data blocks.
func areDataBlocks(p impl.Pager, at, count int64) bool {
	if !isBetween(1, count, 256) {
		return false
	}
	for i := range count {
		if !isDataBlock(p, at+i) {
			return false
		}
	}
	return true
}

// isUsed tells what impl.IsAllocated should tell for a valid pager.
func isUsed(p impl.Pager, k int64) bool {
	_, area := areaOf(p)
	return isDataBlock(p, k) && area[4+k/8]&(1<<(k%8)) != 0
}

// marked returns the pager after the bits of some blocks are set or cleared.
func marked(p impl.Pager, used bool, blocks ...int64) (impl.Pager, int64) {
	k, area := areaOf(p)
	return setIn(p, k, withBits(area, used, blocks...))
}

func withBits(area string, used bool, blocks ...int64) string {
	page := []byte(area)
	for _, b := range blocks {
		bits := []byte{1, 2, 4, 8, 16, 32, 64, 128}[b%8]
		page[4+b/8] |= bits
		if !used {
			page[4+b/8] -= bits
		}
	}
	return string(page)
}

// freeIn tells what impl.FreeRuns should return.
func freeIn(p impl.Pager) []impl.Run {
	var list []impl.Run
	if !isPager(p) {
		return list
	}
	for k := range p.Super.Blocks {
		last := len(list) - 1
		switch {
		case !isDataBlock(p, k) || isUsed(p, k):
		case last >= 0 && list[last].At+list[last].Count == k:
			list[last].Count++
		default:
			list = append(list, impl.Run{At: k, Count: 1})
		}
	}
	return list
}

// allocatedIn tells what impl.Allocate should return.
func allocatedIn(p impl.Pager, n int64) (impl.Pager, int64, int64) {
	switch {
	case !isPager(p):
		return impl.Pager{}, 0, impl.ErrInvalid
	case !isBetween(1, n, 256):
		return impl.Pager{}, 0, impl.ErrRange
	}
	for length := n; length <= 256; length++ {
		for _, run := range freeIn(p) {
			if run.Count != length {
				continue
			}
			after, code := marked(p, true, numbersFrom(run.At, run.At+n-1)...)
			if code != impl.OK {
				return impl.Pager{}, 0, code
			}
			return after, run.At, impl.OK
		}
	}
	return impl.Pager{}, 0, impl.ErrFull
}

// releasedIn tells what impl.Release should return.
func releasedIn(p impl.Pager, at, n int64) (impl.Pager, int64) {
	switch {
	case !isPager(p):
		return impl.Pager{}, impl.ErrInvalid
	case !areDataBlocks(p, at, n):
		return impl.Pager{}, impl.ErrRange
	}
	for k := at; k < at+n; k++ {
		if !isUsed(p, k) {
			return impl.Pager{}, impl.ErrState
		}
	}
	return marked(p, false, numbersFrom(at, at+n-1)...)
}

// rootIn tells what impl.RootOf should return for a valid pager.
func rootIn(p impl.Pager) int64 {
	_, area := areaOf(p)
	return int64(area[0]) + 256*int64(area[1])
}

// rootedIn tells what impl.SetRoot should return.
func rootedIn(p impl.Pager, at int64) (impl.Pager, int64) {
	switch {
	case !isPager(p):
		return impl.Pager{}, impl.ErrInvalid
	case at != 0 && !isDataBlock(p, at):
		return impl.Pager{}, impl.ErrRange
	}
	k, area := areaOf(p)
	return setIn(p, k, string([]byte{byte(at), byte(at / 256)})+area[2:])
}

// blocksOf tells what impl.BlocksFor should return.
func blocksOf(size int64) int64 {
	if !isBetween(0, size, 65536) {
		return 0
	}
	count := int64(1)
	for count*64 < size {
		count++
	}
	return count
}

// bytesIn tells what impl.ReadRun should return.
func bytesIn(p impl.Pager, at, size int64) (string, int64) {
	switch {
	case !isPager(p):
		return "", impl.ErrInvalid
	case !areDataBlocks(p, at, blocksOf(size)):
		return "", impl.ErrRange
	}
	var data []byte
	for i := range size {
		data = append(data, inDirty(p, at+i/64)[i%64])
	}
	return string(data), impl.OK
}

// storedIn tells what impl.WriteRun should return.
func storedIn(p impl.Pager, at int64, data string) (impl.Pager, int64) {
	count := blocksOf(int64(len(data)))
	switch {
	case !isPager(p):
		return impl.Pager{}, impl.ErrInvalid
	case !areDataBlocks(p, at, count):
		return impl.Pager{}, impl.ErrRange
	}
	for i := range count {
		page := []byte(blockOf("\x00"))
		copy(page, data[min(64*i, int64(len(data))):])
		var code int64
		if p, code = setIn(p, at+i, string(page)); code != impl.OK {
			return impl.Pager{}, code
		}
	}
	return p, impl.OK
}

func checkAllocate(t *testing.T, what string, p impl.Pager, n int64) (impl.Pager, int64, int64) {
	t.Helper()
	what = shown(what, "Allocate", n)
	want, wantAt, wantCode := allocatedIn(p, n)
	after, at, code := impl.Allocate(p, n)
	checkPager(t, what, after, code, want, wantCode, p)
	check(t, what, at, wantAt)
	return after, at, code
}

func checkRelease(t *testing.T, what string, p impl.Pager, at, n int64) (impl.Pager, int64) {
	t.Helper()
	want, wantCode := releasedIn(p, at, n)
	after, code := impl.Release(p, at, n)
	checkPager(t, shown(what, "Release", at, n), after, code, want, wantCode, p)
	return after, code
}

func checkSetRoot(t *testing.T, what string, p impl.Pager, at int64) (impl.Pager, int64) {
	t.Helper()
	want, wantCode := rootedIn(p, at)
	after, code := impl.SetRoot(p, at)
	checkPager(t, shown(what, "SetRoot", at), after, code, want, wantCode, p)
	return after, code
}

func checkReadRun(t *testing.T, what string, p impl.Pager, at, size int64) (string, int64) {
	t.Helper()
	want, wantCode := bytesIn(p, at, size)
	data, code := impl.ReadRun(p, at, size)
	check(t, shown(what, "ReadRun", at, size), []any{data, code}, []any{want, wantCode})
	return data, code
}

func checkWriteRun(t *testing.T, what string, p impl.Pager, at int64, data string) (impl.Pager, int64) {
	t.Helper()
	want, wantCode := storedIn(p, at, data)
	after, code := impl.WriteRun(p, at, data)
	checkPager(t, shown(what, "WriteRun", at, len(data)), after, code, want, wantCode, p)
	return after, code
}

// checkSpace checks all that the allocation page tells, of a pager that need not be valid.
func checkSpace(t *testing.T, what string, p impl.Pager) {
	t.Helper()
	runs := freeIn(p)
	count := int64(0)
	for _, run := range runs {
		count += run.Count
	}
	root, code := impl.RootOf(p)
	got := []any{root, code, impl.FreeRuns(p), impl.FreeCount(p)}
	want := []any{int64(0), impl.ErrInvalid, runs, count}
	if isPager(p) {
		want[0], want[1] = rootIn(p), impl.OK
	}
	checkValues(t, "space of "+what, got, want)
	for _, k := range numbersFrom(-1, 257) {
		check(t, shown(what, "IsAllocated", k), impl.IsAllocated(p, k), isPager(p) && isUsed(p, k))
	}
}

// checkOwners checks that the blocks in some lists are exactly those that are
// allocated, each of them once.
func checkOwners(t *testing.T, what string, p impl.Pager, lists ...[]int64) {
	t.Helper()
	owned := map[int64]bool{}
	for _, k := range slices.Concat(lists...) {
		check(t, shown(what, "has two owners", k), owned[k], false)
		owned[k] = true
	}
	for k := range p.Super.Blocks {
		check(t, shown(what, "IsAllocated", k), impl.IsAllocated(p, k), owned[k])
	}
}

// withArea returns the pager with another allocation page: on the disk, among
// the pages in the log, or in the current transaction, if that has room for it.
func withArea(p impl.Pager, place int, area string) impl.Pager {
	k, _ := areaOf(p)
	other := func(page impl.Page) bool { return page.Block == k }
	dirty := slices.DeleteFunc(slices.Clone(p.Dirty), other)
	page := []impl.Page{pageAt(k, area)}
	if place == 2 && len(dirty) < mostDirty(p.Super) {
		p.Dirty = mergedPages(dirty, page)
		return p
	}
	p.Dirty = dirty
	if place == 1 {
		p.Logged = mergedPages(p.Logged, page)
		return p
	}
	p.Logged = slices.DeleteFunc(slices.Clone(p.Logged), other)
	p.Disk.Pending = slices.DeleteFunc(slices.Clone(p.Disk.Pending), func(w impl.Put) bool { return w.Block == k })
	p.Disk = withBlocks(p.Disk, k, []string{area})
	return p
}

// drawSpaced returns a valid pager with allocated and free runs, often with as
// many pages in its current transaction as the log takes.
func (m typeMaker) drawSpaced() impl.Pager {
	p := m.drawPager()
	area := m.drawBlock()
	turns := []int{1, 3, 9, 40, 300}[m.IntN(5)]
	used := m.IntN(2) == 0
	for k := range int64(256) {
		area = withBits(area, used, k)
		if m.IntN(turns) == 0 {
			used = !used
		}
	}
	p = withArea(p, m.IntN(3), area)
	fills := m.IntN(3) > 0
	for k := p.Super.Log + 3; fills && k < p.Super.Blocks && len(p.Dirty) < mostDirty(p.Super); k++ {
		p.Dirty = mergedPages(p.Dirty, []impl.Page{pageAt(k, m.drawBlock())})
	}
	return p
}

// spacedStore returns the pager of a store of 11 blocks and one more for each
// letter of a text; those whose letter is x are allocated.
func spacedStore(t *testing.T, text string) impl.Pager {
	t.Helper()
	p := emptyStore(t, 11+int64(len(text)), 8)
	_, area := areaOf(p)
	for i, letter := range text {
		area = withBits(area, letter == 'x', 11+int64(i))
	}
	return withArea(p, 0, area)
}

// spaceText returns the letters of a store as for spacedStore.
func spaceText(p impl.Pager) string {
	var text []byte
	for k := p.Super.Log + 3; k < p.Super.Blocks; k++ {
		letter := byte('.')
		if impl.IsAllocated(p, k) {
			letter = 'x'
		}
		text = append(text, letter)
	}
	return string(text)
}
