package tests

import (
	"slices"
	"strings"
	"testing"

	"loop.example/g00904/impl"
)

// isPager tells what impl.ValidPager should tell.
func isPager(p impl.Pager) bool {
	s := p.Super
	if !isDisk(p.Disk) || !isSuper(s) || s.Blocks != int64(len(p.Disk.Blocks)) || !p.Disk.Off && len(p.Disk.Pending) > 1 {
		return false
	}
	for _, list := range [][]impl.Page{p.Logged, p.Dirty} {
		if !isPageList(list) || len(list) > 0 && (list[0].Block < s.Log+2 || list[len(list)-1].Block >= s.Blocks) {
			return false
		}
	}
	return isBetween(s.Seq, p.Seq, maxSeq) && isBetween(0, p.At, s.Log) && len(p.Dirty) <= mostDirty(s)
}

// mostDirty returns how many pages the log takes at once.
func mostDirty(s impl.Super) int {
	most := 0
	for pages := range 61 {
		if sizeOfRecord(int64(pages)) <= s.Log {
			most = pages
		}
	}
	return most
}

func samePagers(a, b impl.Pager) bool {
	return slices.Equal(a.Disk.Blocks, b.Disk.Blocks) && slices.Equal(a.Disk.Pending, b.Disk.Pending) && a.Disk.Fuse == b.Disk.Fuse && a.Disk.Off == b.Disk.Off &&
		a.Super == b.Super && a.Seq == b.Seq && a.At == b.At && slices.Equal(a.Logged, b.Logged) && slices.Equal(a.Dirty, b.Dirty)
}

// inDirty returns the contents of a page as the current transaction sees it.
func inDirty(p impl.Pager, k int64) string {
	for _, page := range p.Dirty {
		if page.Block == k {
			return page.Data
		}
	}
	return inLogged(p, k)
}

// inLogged returns the contents of a page without the current transaction.
func inLogged(p impl.Pager, k int64) string {
	for _, page := range p.Logged {
		if page.Block == k {
			return page.Data
		}
	}
	return readFrom(p.Disk, k)
}

// committedIn tells what impl.CommittedPages should return.
func committedIn(p impl.Pager) []string {
	var list []string
	for k := p.Super.Log + 2; k < p.Super.Blocks; k++ {
		list = append(list, inLogged(p, k))
	}
	return list
}

// barrier is the operation of a disk that is not a write.
var barrier = put(-1, "")

// runSteps runs writes and barriers up to the first one that fails.
func runSteps(d impl.Disk, steps []impl.Put) (impl.Disk, int64) {
	code := int64(impl.OK)
	for _, s := range steps {
		if s == barrier {
			d, code = settled(d)
		} else {
			d, code = writtenTo(d, s.Block, s.Data)
		}
		if code != impl.OK {
			break
		}
	}
	return d, code
}

// ranOn returns the pager after some steps, or the one before with the disk at the power failure.
func ranOn(p impl.Pager, steps []impl.Put, after impl.Pager) (impl.Pager, int64) {
	d, code := runSteps(p.Disk, steps)
	if code != impl.OK {
		after = p
	}
	after.Disk = d
	return after, code
}

// stepsOfCheckpoint returns the operations of a checkpoint, and the pager after them but for its disk.
func stepsOfCheckpoint(p impl.Pager) (steps []impl.Put, after impl.Pager) {
	after = p
	after.Super.Seq, after.Super.Turn, after.At, after.Logged = p.Seq, p.Super.Turn+1, 0, nil
	steps = append(steps, barrier)
	for _, page := range p.Logged {
		steps = append(steps, put(page.Block, page.Data))
	}
	steps = append(steps, barrier, put(after.Super.Turn%2, blockOfSuper(after.Super)), barrier)
	for k := int64(2); k < p.Super.Log+2; k++ {
		if readFrom(p.Disk, k) != blockOf("\x00") {
			steps = append(steps, put(k, blockOf("\x00")))
		}
	}
	return append(steps, barrier), after
}

// stepsOfCommit returns the operations of a commit, and the pager after them but for its disk.
func stepsOfCommit(p impl.Pager) (steps []impl.Put, after impl.Pager) {
	after = p
	blocks := blocksOfRecord(recordOf(p.Seq+1, p.Dirty...))
	if isCrowded(p) {
		steps, after = stepsOfCheckpoint(p)
	}
	for i, data := range blocks {
		if i > 0 {
			steps = append(steps, put(2+after.At+int64(i), data))
		}
	}
	steps = append(steps, barrier, put(2+after.At, blocks[0]))
	after.Logged = mergedPages(after.Logged, p.Dirty)
	after.Seq, after.At, after.Dirty = p.Seq+1, after.At+int64(len(blocks)), nil
	return steps, after
}

// isCrowded reports whether the log has no room for the current transaction.
func isCrowded(p impl.Pager) bool {
	return p.At+sizeOfRecord(int64(len(p.Dirty))) > p.Super.Log
}

// committed tells what impl.Commit should return.
func committed(p impl.Pager) (impl.Pager, int64) {
	switch {
	case !isPager(p):
		return impl.Pager{}, impl.ErrInvalid
	case len(p.Dirty) == 0:
		return p, impl.OK
	case p.Seq == maxSeq || isCrowded(p) && p.Super.Turn == maxSeq:
		return impl.Pager{}, impl.ErrFull
	}
	steps, after := stepsOfCommit(p)
	return ranOn(p, steps, after)
}

// synced tells what impl.Sync should return.
func synced(p impl.Pager) (impl.Pager, int64) {
	if !isPager(p) {
		return impl.Pager{}, impl.ErrInvalid
	}
	return ranOn(p, []impl.Put{barrier}, p)
}

// checkpointed tells what impl.Checkpoint should return.
func checkpointed(p impl.Pager) (impl.Pager, int64) {
	if !isPager(p) {
		return impl.Pager{}, impl.ErrInvalid
	}
	return afterCheckpoint(p)
}

func afterCheckpoint(p impl.Pager) (impl.Pager, int64) {
	if p.Super.Turn == maxSeq {
		return impl.Pager{}, impl.ErrFull
	}
	steps, after := stepsOfCheckpoint(p)
	return ranOn(p, steps, after)
}

// opened tells what impl.OpenPager should return.
func opened(d impl.Disk) (impl.Pager, int64) {
	if !isDisk(d) {
		return impl.Pager{}, impl.ErrInvalid
	}
	s, code := currentIn(d)
	if code != impl.OK {
		return impl.Pager{}, code
	}
	_, at, _ := scannedIn(d, s)
	pages, seq, _ := stateIn(d, s)
	return afterCheckpoint(impl.Pager{Disk: d, Super: s, Seq: seq, At: at, Logged: pages})
}

// discarded tells what impl.Discard should return.
func discarded(p impl.Pager) (impl.Pager, int64) {
	if !isPager(p) {
		return impl.Pager{}, impl.ErrInvalid
	}
	p.Dirty = nil
	return p, impl.OK
}

// setIn tells what impl.SetPage should return.
func setIn(p impl.Pager, k int64, data string) (impl.Pager, int64) {
	switch {
	case !isPager(p) || len(data) != 64:
		return impl.Pager{}, impl.ErrInvalid
	case !isBetween(p.Super.Log+2, k, p.Super.Blocks-1):
		return impl.Pager{}, impl.ErrRange
	}
	p.Dirty = mergedPages(p.Dirty, []impl.Page{pageAt(k, data)})
	if len(p.Dirty) > mostDirty(p.Super) {
		return impl.Pager{}, impl.ErrFull
	}
	return p, impl.OK
}

// checkPager checks a pager and a code that a function returns, and that the
// pager is valid, as every one is that is returned beside OK or ErrPower.
func checkPager(t *testing.T, what string, got impl.Pager, code int64, want impl.Pager, wantCode int64, arguments ...any) {
	t.Helper()
	if code != wantCode {
		t.Errorf("%s: got the code %d, want %d", what, code, wantCode)
		return
	}
	if !samePagers(got, want) {
		checkShown(t, what, shown(got), shown(want))
	}
	check(t, what+": is valid", impl.ValidPager(got), code == impl.OK || code == impl.ErrPower)
	checkNew(t, what, arguments, got)
}

// checkPagerFunctions checks all functions of a pager, which need not be valid,
// and returns the codes of Commit, Sync and Checkpoint.
func checkPagerFunctions(t *testing.T, what string, p impl.Pager) []int64 {
	t.Helper()
	check(t, "ValidPager of "+what, impl.ValidPager(p), isPager(p))
	want, wantCode := committed(p)
	after, commitCode := impl.Commit(p)
	checkPager(t, "Commit of "+what, after, commitCode, want, wantCode, p)
	want, wantCode = synced(p)
	after, syncCode := impl.Sync(p)
	checkPager(t, "Sync of "+what, after, syncCode, want, wantCode, p)
	want, wantCode = checkpointed(p)
	after, checkpointCode := impl.Checkpoint(p)
	checkPager(t, "Checkpoint of "+what, after, checkpointCode, want, wantCode, p)
	want, wantCode = discarded(p)
	after, code := impl.Discard(p)
	checkPager(t, "Discard of "+what, after, code, want, wantCode, p)
	pages, code := impl.CommittedPages(p)
	if isPager(p) {
		check(t, "CommittedPages of "+what, []any{pages, code}, []any{committedIn(p), int64(impl.OK)})
	} else {
		checkValues(t, "CommittedPages of "+what, []any{pages, code}, []any{[]string{}, impl.ErrInvalid})
	}
	return []int64{commitCode, syncCode, checkpointCode}
}

func withFuse(p impl.Pager, fuse int64) impl.Pager {
	p.Disk.Fuse = fuse
	return p
}

// numberedPager returns a pager without pages in its lists, whose blocks are all different.
func numberedPager(blocks, log int64) impl.Pager {
	s := superOf(blocks, log, 3, 4)
	return impl.Pager{Disk: withBlocks(numberedDisk(int(blocks)), 0, []string{blockOfSuper(s)}), Super: s, Seq: 5}
}

// emptyStore returns the pager of an empty store.
func emptyStore(t *testing.T, blocks, log int64) impl.Pager {
	t.Helper()
	d, _ := impl.FormatDisk(blocks, log)
	p, code := impl.OpenPager(d)
	check(t, "OpenPager", []any{code, p.Seq, p.Super}, []any{int64(impl.OK), int64(0), superOf(blocks, log, 0, 1)})
	return p
}

// withPages sets pages.
func withPages(t *testing.T, p impl.Pager, pages ...impl.Page) impl.Pager {
	t.Helper()
	for _, page := range pages {
		var code int64
		p, code = impl.SetPage(p, page.Block, page.Data)
		check(t, "SetPage", code, int64(impl.OK))
	}
	return p
}

// committedWith sets pages and ends the transaction.
func committedWith(t *testing.T, p impl.Pager, pages ...impl.Page) impl.Pager {
	t.Helper()
	p, code := impl.Commit(withPages(t, p, pages...))
	check(t, "Commit", code, int64(impl.OK))
	return p
}

// drawPager returns a valid pager.
func (m typeMaker) drawPager() impl.Pager {
	s := m.drawSuper([]int64{16, 17, 40, 100, 256, m.between(16, 256)}[m.IntN(6)])
	s.Turn = min(s.Turn, maxSeq-m.Int64N(2))
	low, high := s.Log+2, s.Blocks-1
	p := impl.Pager{Disk: impl.Disk{Fuse: []int64{-1, -1, -1, 0, 1, 2, 5, m.between(0, 200)}[m.IntN(8)], Off: m.IntN(10) == 0}, Super: s}
	for k := range s.Blocks {
		data := m.drawBlock()
		if k < low && m.IntN(2) == 0 || m.IntN(5) == 0 {
			data = blockOf("\x00")
		}
		p.Disk.Blocks = append(p.Disk.Blocks, data)
	}
	most := 1
	if p.Disk.Off {
		most = 9
	}
	for range m.IntN(most + 1) {
		p.Disk.Pending = append(p.Disk.Pending, put(m.Int64N(s.Blocks), m.drawBlock()))
	}
	p.Seq = min(maxSeq, s.Seq+[]int64{0, 1, 5, maxSeq}[m.IntN(4)])
	p.At = []int64{0, s.Log, m.between(0, s.Log)}[m.IntN(3)]
	p.Logged = m.drawPages(20, low, high)
	p.Dirty = m.drawPages(min(mostDirty(s), 1+m.IntN(60)), low, high)
	return p
}

func roomyPager(p impl.Pager) impl.Pager {
	p.Disk, p.Logged, p.Dirty = roomyDisk(p.Disk), roomyPages(p.Logged), roomyPages(p.Dirty)
	return p
}

func widePager(p impl.Pager) impl.Pager {
	p.Disk, p.Logged, p.Dirty = wideDisk(p.Disk), widePages(p.Logged), widePages(p.Dirty)
	return p
}

// choices returns which of some pending writes may be kept: every subset of a
// few; of many, those up to each, those from each on, each alone, and all but each.
func choices(count int) [][]bool {
	var list [][]bool
	if count <= 5 {
		for bits := range 1 << count {
			kept := make([]bool, count)
			for i := range kept {
				kept[i] = bits>>i&1 == 1
			}
			list = append(list, kept)
		}
		return list
	}
	for i := range count {
		upTo, from, alone, others := make([]bool, count), make([]bool, count), make([]bool, count), make([]bool, count)
		for j := range count {
			upTo[j], from[j], alone[j], others[j] = j <= i, j >= i, j == i, j != i
		}
		list = append(list, upTo, from, alone, others)
	}
	return append(list, make([]bool, count))
}

// everyCut calls a function with each disk that a power cut may leave: with each
// choice of the pending writes, and none of them torn or one of them after each length.
func everyCut(t *testing.T, d impl.Disk, lengths []int64, try func(what string, cut impl.Disk)) {
	t.Helper()
	seen := map[string]bool{}
	cutAt := func(kept []bool, torn, bytes int64) {
		cut, code := impl.CutPower(d, kept, torn, bytes)
		check(t, "CutPower", code, int64(impl.OK))
		contents := strings.Join(cut.Blocks, "")
		if !seen[contents] {
			seen[contents] = true
			try(shown("kept", kept, "torn", torn, bytes), cut)
		}
	}
	for _, kept := range choices(len(d.Pending)) {
		cutAt(kept, -1, 0)
		for torn := range d.Pending {
			if kept[torn] {
				continue
			}
			for _, bytes := range lengths {
				cutAt(kept, int64(torn), bytes)
			}
		}
	}
}

// chronicle is a store with what is known of it.
type chronicle[X any] interface {
	place() *impl.Pager // where the store is kept
	copied() X
	act() // makes one drawn change
	checkAll()
}

// runHistory makes so many steps: drawn changes, commits, transactions that are
// abandoned, and power cuts behind a synchronization. Of so many kinds of steps,
// the first two are the latter ones, and those before commits are commits.
func runHistory[X chronicle[X]](t *testing.T, m typeMaker, x X, steps, kinds, commits int) {
	t.Helper()
	kept := x.copied()
	for range steps {
		p, code := *x.place(), int64(impl.OK)
		switch kind := m.IntN(kinds); {
		case kind == 0:
			p, code = impl.Discard(p)
			x = kept.copied()
			*x.place() = p
		case kind == 1:
			p, code = impl.Sync(p)
			check(t, "Sync", code, int64(impl.OK))
			d, _ := impl.CutPower(p.Disk, nil, -1, 0)
			x = kept.copied()
			*x.place(), code = impl.OpenPager(d)
		case kind < commits:
			*x.place(), code = impl.Commit(p)
			kept = x.copied()
		default:
			x.act()
		}
		check(t, "code", code, int64(impl.OK))
		x.checkAll()
	}
}
