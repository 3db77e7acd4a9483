package tests

import (
	"math"
	"slices"
	"strings"
	"testing"

	"loop.example/g00904/impl"
)

// pagerChange changes one thing of a pager.
type pagerChange func(p *impl.Pager)

// changedPager returns a copy of a pager with a change.
func changedPager(p impl.Pager, change pagerChange) impl.Pager {
	p = roomyPager(p)
	change(&p)
	return p
}

// fullPager returns a pager with something in all of its fields. Its pages are 12 to 39.
func fullPager() impl.Pager {
	p := numberedPager(40, 10)
	p.At, p.Logged, p.Dirty = 4, pagesAt("logged", 12, 20, 39), pagesAt("dirty", 13, 20)
	p.Disk.Pending = []impl.Put{put(6, blockOf("p"))}
	return p
}

// goodChanges are changes of a full pager after which it is still valid.
func goodChanges() []pagerChange {
	return []pagerChange{
		func(p *impl.Pager) {}, func(p *impl.Pager) { p.Disk.Pending = nil }, func(p *impl.Pager) { p.Disk.Off = true }, func(p *impl.Pager) { p.Disk.Off, p.Disk.Pending = true, manyPuts(2) }, func(p *impl.Pager) { p.Disk.Off, p.Disk.Pending = true, manyPuts(600) }, func(p *impl.Pager) { p.Disk.Fuse = 0 }, func(p *impl.Pager) { p.Disk.Fuse = 100000 },
		func(p *impl.Pager) { p.Seq = 3 }, func(p *impl.Pager) { p.Seq = maxSeq }, func(p *impl.Pager) { p.Seq, p.Super.Seq = maxSeq, maxSeq }, func(p *impl.Pager) { p.Seq, p.Super.Seq = 0, 0 }, func(p *impl.Pager) { p.Super.Turn = 0 }, func(p *impl.Pager) { p.Super.Turn = maxSeq },
		func(p *impl.Pager) { p.At = 0 }, func(p *impl.Pager) { p.At = 10 }, func(p *impl.Pager) { p.Logged, p.Dirty = nil, nil }, func(p *impl.Pager) { p.Logged = pagesAt("all", numbersFrom(12, 39)...) }, func(p *impl.Pager) { p.Dirty = pagesAt("most", numbersFrom(12, 19)...) }, func(p *impl.Pager) { p.Dirty = pagesAt("most", numbersFrom(32, 39)...) },
		func(p *impl.Pager) { p.Super.Log = 8 }, func(p *impl.Pager) { p.Logged, p.Dirty, p.Super.Log = nil, nil, 36 },
	}
}

// badChanges are changes of a full pager after which it is not valid.
func badChanges() []pagerChange {
	list := []pagerChange{
		func(p *impl.Pager) { p.Disk.Pending = manyPuts(2) }, func(p *impl.Pager) { p.Disk.Pending = manyPuts(600) }, func(p *impl.Pager) { p.Disk.Fuse = 0; p.Disk.Pending = manyPuts(2) }, func(p *impl.Pager) { p.Disk.Off, p.Disk.Pending = true, manyPuts(601) }, func(p *impl.Pager) { p.Disk.Fuse = -2 }, func(p *impl.Pager) { p.Disk.Blocks[7] = "short" },
		func(p *impl.Pager) { p.Disk.Blocks = p.Disk.Blocks[:39] }, func(p *impl.Pager) { p.Disk.Blocks = append(p.Disk.Blocks, blockOf("a")) }, func(p *impl.Pager) { p.Super.Blocks = 41 }, func(p *impl.Pager) { p.Super.Log = 7 }, func(p *impl.Pager) { p.Super.Log = 37 }, func(p *impl.Pager) { p.Super.Turn = -1 }, func(p *impl.Pager) { p.Super.Turn = maxSeq + 1 }, func(p *impl.Pager) { p.Super = impl.Super{} },
		func(p *impl.Pager) { p.Seq = 2 }, func(p *impl.Pager) { p.Seq = -1 }, func(p *impl.Pager) { p.Seq = maxSeq + 1 }, func(p *impl.Pager) { p.Super.Seq = 6 }, func(p *impl.Pager) { p.Super.Seq = -1 }, func(p *impl.Pager) { p.Seq, p.Super.Seq = maxSeq+1, maxSeq+1 }, func(p *impl.Pager) { p.Seq = math.MinInt64 }, func(p *impl.Pager) { p.Seq = math.MaxInt64 },
		func(p *impl.Pager) { p.At = -1 }, func(p *impl.Pager) { p.At = 11 }, func(p *impl.Pager) { p.At = math.MinInt64 }, func(p *impl.Pager) { p.At = math.MaxInt64 }, func(p *impl.Pager) { p.Super.Log = 11 },
		func(p *impl.Pager) { p.Dirty = pagesAt("too many", numbersFrom(12, 20)...) }, func(p *impl.Pager) { *p = impl.Pager{} },
	}
	for _, pages := range append(badPages(), pagesAt("a", 11), pagesAt("a", 40), pagesAt("a", 11, 12), pagesAt("a", 39, 40), pagesAt("a", 0), pagesAt("a", 255)) {
		list = append(list, func(p *impl.Pager) { p.Logged = pages }, func(p *impl.Pager) { p.Dirty = pages })
	}
	return list
}

// badPagers are pagers that are not valid.
func badPagers() []impl.Pager {
	var list []impl.Pager
	for _, change := range badChanges() {
		list = append(list, changedPager(fullPager(), change))
	}
	for _, d := range badDisks() {
		p := numberedPager(40, 10)
		p.Disk, p.Super.Blocks = d, int64(len(d.Blocks))
		list = append(list, p)
	}
	for _, s := range badSupers() {
		p := numberedPager(40, 10)
		p.Super, p.Seq = s, max(s.Seq, 5)
		list = append(list, p)
	}
	return list
}

func TestP13ValidPagers(t *testing.T) {
	for i, change := range goodChanges() {
		p := changedPager(fullPager(), change)
		check(t, shown("good", i), []bool{impl.ValidPager(p), isPager(p)}, []bool{true, true})
		checkPagerFunctions(t, shown("good", i), p)
	}
	m := newTypeMaker(91)
	for range 200 {
		p := m.drawPager()
		check(t, "drawn", []bool{impl.ValidPager(p), isPager(p)}, []bool{true, true})
	}
}

func TestP13PagersThatAreNotValid(t *testing.T) {
	for i, p := range badPagers() {
		what := shown("bad", i)
		check(t, what, []bool{impl.ValidPager(p), isPager(p)}, []bool{false, false})
		checkPagerFunctions(t, what, p)
		for _, k := range []int64{-1, 0, 11, 12, 20, 39, 40, math.MinInt64, math.MaxInt64} {
			data, code := impl.GetPage(p, k)
			check(t, "GetPage of "+what, []any{data, code}, []any{"", int64(impl.ErrInvalid)})
			for _, data := range []string{"", blockOf("a")} {
				after, code := impl.SetPage(p, k, data)
				checkPager(t, "SetPage of "+what, after, code, impl.Pager{}, impl.ErrInvalid)
			}
		}
	}
	for i, d := range badDisks() {
		p, code := impl.OpenPager(d)
		checkPager(t, shown("OpenPager", i), p, code, impl.Pager{}, impl.ErrInvalid)
	}
}

// How many pages a transaction may have, for each log.
func TestP13RoomOfLogs(t *testing.T) {
	for log := int64(8); log <= 64; log++ {
		p := numberedPager(256, log)
		most := min(int(log)-2, 60)
		if log > 34 {
			most = min(max(32, int(log)-3), 60)
		}
		check(t, shown("log", log), mostDirty(p.Super), most)
		for count := most - 1; count <= most+3; count++ {
			p.Dirty = pagesAt("a", numbersFrom(100, 99+int64(count))...)
			check(t, shown("log", log, count), impl.ValidPager(p), count <= most)
		}
	}
}

func TestP13SamePagers(t *testing.T) {
	for _, base := range []impl.Pager{fullPager(), {Disk: impl.Disk{Blocks: []string{"a", "b"}, Pending: manyPuts(2)}, Super: superOf(-1, -2, 9, 9), Seq: -3, At: -4, Logged: []impl.Page{pageAt(-5, ""), {}, {}}, Dirty: []impl.Page{pageAt(7, "c"), {}}}} {
		check(t, "same", impl.SamePager(base, roomyPager(base)), true)
		for i, change := range []pagerChange{
			func(p *impl.Pager) { p.Disk.Blocks[0] = "A" }, func(p *impl.Pager) { p.Disk.Pending[0].Block++ }, func(p *impl.Pager) { p.Disk.Pending[0].Data = "B" }, func(p *impl.Pager) { p.Disk.Fuse = 77 }, func(p *impl.Pager) { p.Disk.Off = true }, func(p *impl.Pager) { p.Disk.Blocks = p.Disk.Blocks[:1] },
			func(p *impl.Pager) { p.Super.Blocks++ }, func(p *impl.Pager) { p.Super.Log++ }, func(p *impl.Pager) { p.Super.Seq++ }, func(p *impl.Pager) { p.Super.Turn++ }, func(p *impl.Pager) { p.Seq++ }, func(p *impl.Pager) { p.At++ },
			func(p *impl.Pager) { p.Logged[0].Block++ }, func(p *impl.Pager) { p.Logged[1].Data += "C" }, func(p *impl.Pager) { p.Logged = p.Logged[:2] }, func(p *impl.Pager) { p.Logged = append(p.Logged, impl.Page{}) }, func(p *impl.Pager) { p.Logged = nil }, func(p *impl.Pager) { slices.Reverse(p.Logged) },
			func(p *impl.Pager) { p.Dirty[1].Block++ }, func(p *impl.Pager) { p.Dirty[0].Data = "D" }, func(p *impl.Pager) { p.Dirty = p.Dirty[:1] }, func(p *impl.Pager) { p.Dirty = append(p.Dirty, impl.Page{}) }, func(p *impl.Pager) { p.Dirty = nil }, func(p *impl.Pager) { slices.Reverse(p.Dirty) }, func(p *impl.Pager) { p.Logged, p.Dirty = p.Dirty, p.Logged },
		} {
			p := changedPager(base, change)
			check(t, "change", []any{i, impl.SamePager(base, p), impl.SamePager(p, base), impl.SamePager(p, p)}, []any{i, false, false, true})
		}
	}
	empty := impl.Pager{Disk: impl.Disk{Blocks: []string{}, Pending: []impl.Put{}}, Logged: []impl.Page{}, Dirty: []impl.Page{}}
	check(t, "nil and empty", impl.SamePager(impl.Pager{}, empty), true)
}

// A page is that of the current transaction, else of the log, else of the disk.
func TestP13PagesThatAreRead(t *testing.T) {
	p := fullPager()
	p.Disk.Pending = []impl.Put{put(21, blockOf("p"))}
	for k, want := range map[int64]string{12: p.Logged[0].Data, 13: p.Dirty[0].Data, 20: p.Dirty[1].Data, 39: p.Logged[2].Data, 21: blockOf("p"), 14: p.Disk.Blocks[14]} {
		data, code := impl.GetPage(p, k)
		check(t, shown("GetPage", k), []any{data, code}, []any{want, int64(impl.OK)})
	}
	pages, code := impl.CommittedPages(p)
	check(t, "CommittedPages", []any{len(pages), pages[0], pages[1], pages[8], pages[9], pages[27], code}, []any{28, p.Logged[0].Data, p.Disk.Blocks[13], p.Logged[1].Data, blockOf("p"), p.Logged[2].Data, int64(impl.OK)})
	m := newTypeMaker(92)
	for range 60 {
		p := m.drawPager()
		for _, k := range append(oddNumbers(), numbersFrom(-1, 257)...) {
			data, code := impl.GetPage(p, k)
			want, wantCode := "", int64(impl.ErrRange)
			if isBetween(p.Super.Log+2, k, p.Super.Blocks-1) {
				want, wantCode = inDirty(p, k), impl.OK
			}
			check(t, shown("GetPage", k), []any{data, code}, []any{want, wantCode})
		}
	}
}

func checkSet(t *testing.T, p impl.Pager, k int64, data string) (impl.Pager, int64) {
	t.Helper()
	want, wantCode := setIn(p, k, data)
	after, code := impl.SetPage(p, k, data)
	checkPager(t, shown("SetPage", k, len(data)), after, code, want, wantCode, p)
	return after, code
}

func TestP13PagesThatAreSet(t *testing.T) {
	m := newTypeMaker(93)
	codes := map[int64]int{}
	for range 100 {
		p := m.drawPager()
		for _, k := range append(numbersFrom(p.Super.Log, p.Super.Log+4), -1, 0, p.Super.Blocks-2, p.Super.Blocks-1, p.Super.Blocks, math.MinInt64, math.MaxInt64, m.between(p.Super.Log+2, p.Super.Blocks-1)) {
			data := m.drawBlock()
			after, code := checkSet(t, p, k, data)
			codes[code]++
			checkSet(t, p, k, data[:63])
			checkSet(t, p, k, data+"\x00")
			checkSet(t, p, k, "")
			if code != impl.OK {
				continue
			}
			got, code := impl.GetPage(after, k)
			check(t, "GetPage after SetPage", []any{got, code}, []any{data, int64(impl.OK)})
			check(t, "committed pages after SetPage", committedIn(after), committedIn(p))
			if m.IntN(2) == 0 {
				p = after
			}
		}
	}
	if codes[impl.OK] < 300 || codes[impl.ErrRange] < 300 || codes[impl.ErrFull] < 10 {
		t.Errorf("too few of a code: %v", codes)
	}
}

// As many pages as the log takes, one more, and the same ones again.
func TestP13TransactionsAtTheirLimit(t *testing.T) {
	for _, log := range []int64{8, 9, 33, 34, 35, 36, 37, 61, 62, 63, 64} {
		p := numberedPager(256, log)
		most := int64(mostDirty(p.Super))
		for i := range most {
			var code int64
			p, code = checkSet(t, p, 255-i*2, paddedTo64(shown("page", i)))
			check(t, shown("page", i, log), code, int64(impl.OK))
		}
		for _, k := range []int64{254, 100, 256 - 2*most} {
			_, code := checkSet(t, p, k, blockOf("x"))
			check(t, shown("one more", k, log), code, int64(impl.ErrFull))
		}
		for _, k := range []int64{-1, 256, log + 1} {
			_, code := checkSet(t, p, k, blockOf("x"))
			check(t, shown("no page", k, log), code, int64(impl.ErrRange))
		}
		for i := range most {
			var code int64
			p, code = checkSet(t, p, 255-i*2, paddedTo64(shown("again", i)))
			check(t, shown("again", i, log), code, int64(impl.OK))
		}
		for at := range log + 1 {
			p.At = at
			checkPagerFunctions(t, shown("at the limit", log, at), p)
		}
	}
}

// Every fuse with which an operation fails.
func checkEveryFuse(t *testing.T, what string, p impl.Pager) {
	t.Helper()
	for fuse := int64(0); ; fuse++ {
		codes := checkPagerFunctions(t, shown(what, "with the fuse", fuse), withFuse(p, fuse))
		if !slices.Contains(codes, impl.ErrPower) {
			return
		}
	}
}

func TestP13OperationsOnTheDisk(t *testing.T) {
	for i, change := range goodChanges() {
		if p := changedPager(fullPager(), change); !p.Disk.Off {
			checkEveryFuse(t, shown("good", i), p)
		}
	}
	// The log has just enough room, or just not.
	for at := range int64(11) {
		for count := range int64(9) {
			p := fullPager()
			p.At, p.Dirty = at, pagesAt("dirty", numbersFrom(20, 19+count)...)
			check(t, "is crowded", isCrowded(p), count > 0 && at+count+2 > 10)
			checkEveryFuse(t, shown("room", at, count), p)
		}
	}
}

func TestP13DrawnOperations(t *testing.T) {
	m := newTypeMaker(94)
	codes := []map[int64]int{{}, {}, {}}
	for i := range 2000 {
		for j, code := range checkPagerFunctions(t, shown("drawn", i), m.drawPager()) {
			codes[j][code]++
		}
	}
	for i, counts := range codes {
		if counts[impl.OK] < 100 || counts[impl.ErrPower] < 100 || i != 1 && counts[impl.ErrFull] < 10 {
			t.Errorf("too few of a code: %v", codes)
		}
	}
}

// What a commit, a synchronization and a checkpoint do, written out.
func TestP13WrittenOperations(t *testing.T) {
	p := emptyStore(t, 20, 8)
	check(t, "an empty store", []any{p.Seq, p.At, len(p.Logged), len(p.Dirty), len(p.Disk.Pending), p.Disk.Blocks[1]}, []any{int64(0), int64(0), 0, 0, 0, blockOfSuper(superOf(20, 8, 0, 1))})
	p = committedWith(t, p, pageAt(15, blockOf("b")), pageAt(12, blockOf("a")))
	blocks := impl.EncodeRecord(recordOf(1, pageAt(12, blockOf("a")), pageAt(15, blockOf("b"))))
	check(t, "after Commit", []any{p.Seq, p.At, len(p.Dirty), p.Logged, p.Disk.Pending, p.Disk.Blocks[2:7]},
		[]any{int64(1), int64(4), 0, []impl.Page{pageAt(12, blockOf("a")), pageAt(15, blockOf("b"))}, []impl.Put{put(2, blocks[0])}, []string{blockOf("\x00"), blocks[1], blocks[2], blocks[3], blockOf("\x00")}})
	p, code := impl.Sync(p)
	check(t, "after Sync", []any{code, p.Seq, p.At, len(p.Disk.Pending), p.Disk.Blocks[2]}, []any{int64(impl.OK), int64(1), int64(4), 0, blocks[0]})
	p = committedWith(t, p, pageAt(12, blockOf("c")))
	second := impl.EncodeRecord(recordOf(2, pageAt(12, blockOf("c"))))
	check(t, "after the second Commit", []any{p.Seq, p.At, p.Logged, p.Disk.Pending, p.Disk.Blocks[7:9]},
		[]any{int64(2), int64(7), []impl.Page{pageAt(12, blockOf("c")), pageAt(15, blockOf("b"))}, []impl.Put{put(6, second[0])}, second[1:]})
	p = withPages(t, p, pageAt(19, blockOf("d")))
	p, code = impl.Checkpoint(p)
	check(t, "after Checkpoint", []any{code, p.Super, p.Seq, p.At, len(p.Logged), p.Dirty, len(p.Disk.Pending), p.Disk.Blocks[0], p.Disk.Blocks[12], p.Disk.Blocks[15], p.Disk.Blocks[19]},
		[]any{int64(impl.OK), superOf(20, 8, 2, 2), int64(2), int64(0), 0, []impl.Page{pageAt(19, blockOf("d"))}, 0, blockOfSuper(superOf(20, 8, 2, 2)), blockOf("c"), blockOf("b"), blockOf("\x00")})
	check(t, "the log after Checkpoint", p.Disk.Blocks[2:10], slices.Repeat([]string{blockOf("\x00")}, 8))
	p, code = impl.Commit(p)
	check(t, "after the third Commit", []any{code, p.Seq, p.At}, []any{int64(impl.OK), int64(3), int64(3)})
	p = committedWith(t, p, pagesAt("e", 10, 11, 12, 13)...)
	check(t, "after a Commit with a checkpoint", []any{p.Seq, p.At, p.Super, len(p.Logged), p.Disk.Blocks[19]}, []any{int64(4), int64(6), superOf(20, 8, 3, 3), 4, blockOf("d")})
}

// Numbers of transactions and superblocks at their limits.
func TestP13LastNumbers(t *testing.T) {
	codes := map[string]int{}
	for _, seq := range []int64{maxSeq - 2, maxSeq - 1, maxSeq} {
		for _, turn := range []int64{maxSeq - 2, maxSeq - 1, maxSeq} {
			for _, at := range []int64{0, 6, 7, 10} {
				for _, dirty := range [][]impl.Page{nil, pagesAt("a", 13, 20), pagesAt("a", numbersFrom(12, 19)...)} {
					for _, off := range []bool{false, true} {
						p := fullPager()
						p.Seq, p.Super.Turn, p.At, p.Dirty, p.Disk.Off = seq, turn, at, dirty, off
						codes[shown(checkPagerFunctions(t, shown("last", seq, turn, at, len(dirty), off), p))]++
					}
				}
			}
		}
	}
	if len(codes) < 6 {
		t.Errorf("codes: %v", codes)
	}
	// The very last transaction, and the very last superblock.
	p := fullPager()
	p.Seq, p.Super.Turn, p.Dirty = maxSeq-1, maxSeq-1, nil
	p = committedWith(t, p, pageAt(12, blockOf("a")))
	check(t, "the last transaction", p.Seq, int64(maxSeq))
	_, code := impl.Commit(withPages(t, p, pageAt(12, blockOf("b"))))
	check(t, "one transaction more", code, int64(impl.ErrFull))
	p, code = impl.Checkpoint(p)
	check(t, "the last superblock", []any{code, p.Super}, []any{int64(impl.OK), superOf(40, 10, maxSeq, maxSeq)})
	_, code = impl.Checkpoint(p)
	check(t, "one superblock more", code, int64(impl.ErrFull))
	_, code = impl.OpenPager(p.Disk)
	check(t, "OpenPager after the last superblock", code, int64(impl.ErrFull))
	_, code = impl.OpenPager(turnedOff(p.Disk))
	check(t, "OpenPager without power", code, int64(impl.ErrFull))
	_, code = impl.Sync(p)
	check(t, "Sync", code, int64(impl.OK))
}

// checkOpened checks the opening of a disk.
func checkOpened(t *testing.T, what string, d impl.Disk) int64 {
	t.Helper()
	want, wantCode := opened(d)
	p, code := impl.OpenPager(d)
	checkPager(t, "OpenPager of "+what, p, code, want, wantCode, d)
	return code
}

// storesToOpen are disks with a superblock and a log.
func storesToOpen() map[string]impl.Disk {
	s := superOf(20, 9, 5, 4)
	d := diskWith(20, blockOfSuper(s), blockOf("\x00"))
	zero := withBlocks(d, 2, slices.Repeat([]string{blockOf("\x00")}, 9))
	six, seven, eight := recordOf(6, pagesAt("six", 11)...), recordOf(7, pagesAt("seven", 12)...), recordOf(8, pagesAt("eight", 11)...)
	pending := zero
	for i, block := range blocksOfRecord(six) {
		pending.Pending = append(pending.Pending, put(int64(i+2), block))
	}
	pending.Pending = append(pending.Pending, put(1, blockOfSuper(superOf(20, 9, 5, 3))), put(15, blockOf("p")))
	later := withLog(zero, six, seven)
	later.Blocks[1] = blockOfSuper(superOf(20, 9, 6, 5))
	last := withLog(zero, six)
	last.Blocks[0] = blockOfSuper(superOf(20, 9, 5, maxSeq))
	return map[string]impl.Disk{
		"no record": d, "zero bytes": zero, "one record": withLog(zero, six), "a full log": withLog(zero, six, seven, eight), "something behind a record": withLog(d, six), "pending writes": pending, "many pending writes": {Blocks: zero.Blocks, Pending: manyPuts(600), Fuse: -1}, "a later superblock": later, "the last superblock": last,
		"no superblock": numberedDisk(20), "no disk": numberedDisk(15), "the superblock of another disk": diskWith(21, blockOfSuper(s), blockOf("\x00")), "a superblock in the wrong place": diskWith(20, blockOf("\x00"), blockOfSuper(s)), "a long record": withLog(zero, recordOf(6, pagesAt("six", 11, 12, 13, 14, 15, 16, 19)...)),
	}
}

func TestP13StoresThatAreOpened(t *testing.T) {
	codes := map[int64]int{}
	for what, d := range storesToOpen() {
		for fuse := int64(-1); ; fuse++ {
			d.Fuse = fuse
			code := checkOpened(t, shown(what, fuse), d)
			codes[code]++
			checkOpened(t, shown(what, fuse, "off"), turnedOff(d))
			if fuse >= 0 && code != impl.ErrPower {
				break
			}
		}
	}
	if codes[impl.OK] < 10 || codes[impl.ErrPower] < 50 || codes[impl.ErrCorrupt] < 4 || codes[impl.ErrFull] < 1 || codes[impl.ErrInvalid] < 1 {
		t.Errorf("too few of a code: %v", codes)
	}
}

// The pager that is returned beside ErrPower.
func TestP13PagersWithoutPower(t *testing.T) {
	d := storesToOpen()["a full log"]
	for fuse := range int64(5) {
		d.Fuse = fuse
		p, code := impl.OpenPager(d)
		check(t, shown("OpenPager", fuse), []any{code, p.Super, p.Seq, p.At, p.Logged, len(p.Dirty), p.Disk.Off, p.Disk.Fuse, len(p.Disk.Pending)},
			[]any{int64(impl.ErrPower), superOf(20, 9, 5, 4), int64(8), int64(9), slices.Concat(pagesAt("eight", 11), pagesAt("seven", 12)), 0, true, int64(0), []int{0, 0, 1, 2, 0}[fuse]})
	}
	p := fullPager()
	p.At = 8
	for fuse := range int64(30) {
		after, code := impl.Commit(withFuse(p, fuse))
		if code == impl.OK {
			check(t, "operations of a commit", fuse, int64(1+3+1+1+1+10+1+3+1+1))
			break
		}
		check(t, shown("Commit", fuse), []any{code, after.Super, after.Seq, after.At, after.Logged, after.Dirty, after.Disk.Off}, []any{int64(impl.ErrPower), p.Super, p.Seq, p.At, p.Logged, p.Dirty, true})
		again, code := impl.Commit(after)
		checkPager(t, "Commit without power", again, code, after, impl.ErrPower, after)
		again, code = impl.Checkpoint(after)
		checkPager(t, "Checkpoint without power", again, code, after, impl.ErrPower, after)
		again, code = impl.Sync(after)
		checkPager(t, "Sync without power", again, code, after, impl.ErrPower, after)
		data, code := impl.GetPage(after, 13)
		check(t, "GetPage without power", []any{data, code}, []any{p.Dirty[0].Data, int64(impl.OK)})
	}
}

// Every combination of the causes of an error.
func TestP13OrderOfErrors(t *testing.T) {
	codes := map[int64]int{}
	for bits := range 128 {
		p, k, data := fullPager(), int64(15), blockOf("a")
		for i, cause := range []func(){
			func() { p.Disk.Off = true }, func() { p.At = 11 }, func() { p.Dirty = pagesAt("most", numbersFrom(18, 25)...) }, func() { p.Seq = maxSeq }, func() { p.Super.Turn = maxSeq }, func() { k = 40 }, func() { data = data[1:] },
		} {
			if bits>>i&1 == 1 {
				cause()
			}
		}
		for i, code := range checkPagerFunctions(t, shown("errors", bits), p) {
			codes[code+int64(100*i)]++
		}
		_, code := checkSet(t, p, k, data)
		codes[code+300]++
		got, code := impl.GetPage(p, k)
		switch {
		case !isPager(p):
			check(t, "GetPage", []any{got, code}, []any{"", int64(impl.ErrInvalid)})
		case k == 40:
			check(t, "GetPage", []any{got, code}, []any{"", int64(impl.ErrRange)})
		}
	}
	check(t, "codes", codes, map[int64]int{0: 12, 1: 64, 5: 40, 13: 12, 100: 32, 101: 64, 113: 32, 200: 16, 201: 64, 205: 32, 213: 16, 300: 8, 301: 96, 302: 16, 305: 8})
}

func TestP13Example(t *testing.T) {
	p := emptyStore(t, 40, 8)
	p = committedWith(t, p, pageAt(20, blockOf("a")))
	check(t, "Commit", []any{p.Seq, len(p.Disk.Pending)}, []any{int64(1), 1})
	for _, kept := range []bool{false, true} {
		cut, _ := impl.CutPower(p.Disk, []bool{kept}, -1, 0)
		q, code := impl.OpenPager(cut)
		data, _ := impl.GetPage(q, 20)
		want := []any{int64(impl.OK), int64(0), blockOf("\x00")}
		if kept {
			want = []any{int64(impl.OK), int64(1), blockOf("a")}
		}
		check(t, shown("OpenPager", kept), []any{code, q.Seq, data}, want)
	}
}

func pagerResults(p, q impl.Pager, k int64, data string) []any {
	opened, openCode := impl.OpenPager(p.Disk)
	page, getCode := impl.GetPage(p, k)
	set, setCode := impl.SetPage(p, k, data)
	committed, commitCode := impl.Commit(p)
	discarded, discardCode := impl.Discard(p)
	synced, syncCode := impl.Sync(p)
	checkpointed, checkpointCode := impl.Checkpoint(p)
	pages, pagesCode := impl.CommittedPages(p)
	return []any{impl.ValidPager(p), impl.SamePager(p, q), opened, openCode, page, getCode, set, setCode, committed, commitCode, discarded, discardCode, synced, syncCode, checkpointed, checkpointCode, pages, pagesCode}
}

func TestP1PagersReturnForAllArguments(t *testing.T) {
	numbers, texts := oddNumbers(), oddStrings()
	pagers := append(badPagers(), fullPager(), numberedPager(16, 8))
	for i, k := range numbers {
		p, q := pagers[i*5%len(pagers)], pagers[i*7%len(pagers)]
		p.Seq, p.At = numbers[i*3%len(numbers)], numbers[i*11%len(numbers)]
		for _, p := range []impl.Pager{p, q, pagers[len(pagers)-1], pagers[len(pagers)-2]} {
			data := texts[i%len(texts)]
			checkShown(t, "second call", shown(pagerResults(roomyPager(p), roomyPager(q), k, data)...), shown(pagerResults(p, q, k, data)...))
		}
	}
}

func TestP1PagersAreNotModified(t *testing.T) {
	m := newTypeMaker(95)
	for range 150 {
		p, q := roomyPager(m.drawPager()), roomyPager(m.drawPager())
		k, data := m.between(p.Super.Log+2, p.Super.Blocks-1), m.drawBlock()
		before := shown(widePager(p), widePager(q))
		results := pagerResults(p, q, k, data)
		checkNew(t, "results", []any{p, q}, results...)
		first := shown(results...)
		second := shown(pagerResults(p, q, k, data)...)
		checkShown(t, "arguments after the calls", shown(widePager(p), widePager(q)), before)
		checkShown(t, "second call", second, first)
	}
}

// blockLengths are all lengths of a torn write.
func blockLengths() []int64 {
	return numbersFrom(0, 64)
}

// keptStates are the pages of a store after each of its transactions.
type keptStates map[int64][]string

// checkKept opens a disk after a power cut and checks that it contains exactly
// the transactions up to one of them, from low to high.
func (states keptStates) checkKept(t *testing.T, what string, cut impl.Disk, low, high int64) impl.Pager {
	t.Helper()
	p, code := impl.OpenPager(cut)
	pages, pagesCode := impl.CommittedPages(p)
	if code != impl.OK || pagesCode != impl.OK || !isBetween(low, p.Seq, high) || !slices.Equal(pages, states[p.Seq]) || len(p.Dirty) > 0 {
		t.Fatalf("%s: opened with the code %d and Seq %d, want %d to %d with its pages", what, code, p.Seq, low, high)
	}
	return p
}

// checkAtomic runs an operation on a pager with every fuse, and opens the store
// after each power cut. The transactions up to durable are synchronized.
func (states keptStates) checkAtomic(t *testing.T, what string, p impl.Pager, durable int64, operation func(p impl.Pager) (impl.Pager, int64)) (counts map[int64]int) {
	t.Helper()
	counts = map[int64]int{}
	for fuse := int64(0); ; fuse++ {
		after, code := operation(withFuse(p, fuse))
		low, high := durable, p.Seq
		if code == impl.OK {
			high = after.Seq
		}
		// Behind the first barrier, what was committed before is durable.
		if len(p.Disk.Pending) > 0 && !slices.Contains(after.Disk.Pending, p.Disk.Pending[0]) {
			low = p.Seq
		}
		everyCut(t, after.Disk, blockLengths(), func(cutText string, cut impl.Disk) {
			q := states.checkKept(t, shown(what, fuse, cutText), cut, low, high)
			counts[q.Seq]++
		})
		if code == impl.OK {
			return counts
		}
		check(t, "code", code, int64(impl.ErrPower))
	}
}

// A store with 16 blocks and 8 log blocks has the pages 10 to 15.
func TestP13CommitsAreAtomic(t *testing.T) {
	for _, syncFirst := range []bool{false, true} {
		for count := int64(1); count <= 5; count++ {
			states := keptStates{}
			p := emptyStore(t, 16, 8)
			states[0], _ = impl.CommittedPages(p)
			p = committedWith(t, p, pagesAt("old", 11)...)
			states[1], _ = impl.CommittedPages(p)
			durable := int64(0)
			if syncFirst {
				p, _ = impl.Sync(p)
				durable = 1
			}
			p = withPages(t, p, pagesAt("new", numbersFrom(11, 10+count)...)...)
			after, _ := impl.Commit(p)
			states[2], _ = impl.CommittedPages(after)
			check(t, "checkpoint", after.Super.Turn > p.Super.Turn, count > 3)
			counts := states.checkAtomic(t, shown("commit", syncFirst, count), p, durable, impl.Commit)
			check(t, "states", []bool{counts[0] > 0, counts[1] > 0, counts[2] > 0}, []bool{!syncFirst, true, true})
		}
	}
}

func TestP13SynchronizedTransactionsAreDurable(t *testing.T) {
	states := keptStates{}
	p := emptyStore(t, 16, 8)
	states[0], _ = impl.CommittedPages(p)
	for i, name := range []string{"first", "second", "third"} {
		p = committedWith(t, p, pagesAt(name, 11, 12+int64(i))...)
		states[p.Seq], _ = impl.CommittedPages(p)
		durable := p.Seq - 1
		counts := states.checkAtomic(t, name, withPages(t, p, pagesAt("lost", 14)...), durable, impl.Sync)
		check(t, "states", len(counts), 2)
		after, code := impl.Sync(p)
		check(t, "Sync", code, int64(impl.OK))
		everyCut(t, after.Disk, blockLengths(), func(what string, cut impl.Disk) {
			states.checkKept(t, what, cut, p.Seq, p.Seq)
		})
		p = after
	}
}

func TestP13CheckpointsChangeNoPage(t *testing.T) {
	states := keptStates{}
	p := emptyStore(t, 16, 12)
	states[0], _ = impl.CommittedPages(p)
	p = committedWith(t, p, pagesAt("first", 14)...)
	states[1], _ = impl.CommittedPages(p)
	p = committedWith(t, p, pagesAt("second", 14, 15)...)
	states[2], _ = impl.CommittedPages(p)
	p = withPages(t, p, pagesAt("lost", 15)...)
	counts := states.checkAtomic(t, "checkpoint", p, 1, impl.Checkpoint)
	check(t, "states", []bool{counts[1] > 0, counts[2] > 0}, []bool{true, true})
	after, _ := impl.Checkpoint(p)
	pages, _ := impl.CommittedPages(after)
	check(t, "pages after Checkpoint", pages, states[2])
	data, _ := impl.GetPage(after, 15)
	check(t, "the current transaction after Checkpoint", data, pagesAt("lost", 15)[0].Data)
	// Without transactions since the last one.
	p = emptyStore(t, 16, 12)
	keptStates{0: states[0]}.checkAtomic(t, "empty checkpoint", p, 0, impl.Checkpoint)
}

// checkReopened cuts the power while a store is opened, with every fuse, and
// opens it again.
func checkReopened(t *testing.T, what string, d impl.Disk, lengths []int64) {
	t.Helper()
	first, code := impl.OpenPager(d)
	check(t, "OpenPager", code, int64(impl.OK))
	pages, _ := impl.CommittedPages(first)
	states := keptStates{first.Seq: pages}
	for fuse := int64(0); code != impl.OK || fuse == 0; fuse++ {
		var p impl.Pager
		p, code = impl.OpenPager(withFuse(impl.Pager{Disk: d}, fuse).Disk)
		again, _ := impl.CommittedPages(p)
		check(t, "pages of a store that is being opened", []any{p.Seq, slices.Equal(again, pages)}, []any{first.Seq, true})
		everyCut(t, p.Disk, lengths, func(cutText string, cut impl.Disk) {
			states.checkKept(t, shown(what, fuse, cutText), cut, first.Seq, first.Seq)
		})
	}
}

func TestP13OpeningsChangeNoPage(t *testing.T) {
	p := emptyStore(t, 16, 8)
	checkReopened(t, "empty", p.Disk, blockLengths())
	p = committedWith(t, p, pagesAt("first", 14)...)
	p = committedWith(t, p, pagesAt("second", 14, 15)...)
	everyCut(t, p.Disk, []int64{0, 1, 63, 64}, func(what string, cut impl.Disk) {
		checkReopened(t, shown("first and second", what), cut, blockLengths())
	})
}

// The power fails during a commit with a checkpoint, and then while the store
// is opened.
func TestP13TwoPowerCuts(t *testing.T) {
	p := emptyStore(t, 16, 8)
	p = committedWith(t, p, pagesAt("first", 12, 14)...)
	p = withPages(t, p, pagesAt("second", 13, 14, 15)...)
	check(t, "is crowded", isCrowded(p), true)
	for fuse := int64(0); fuse < 25; fuse++ {
		after, _ := impl.Commit(withFuse(p, fuse))
		everyCut(t, after.Disk, []int64{1, 33, 63}, func(what string, cut impl.Disk) {
			checkReopened(t, shown(fuse, what), cut, []int64{1, 40, 63})
		})
	}
}

// history is a store with what is known of its transactions.
type history struct {
	t       *testing.T
	m       typeMaker
	p       impl.Pager
	states  keptStates
	durable int64
	kept    map[string]int
}

// act makes one drawn operation, and returns its code.
func (h *history) act() (code int64) {
	low, high := h.p.Super.Log+2, h.p.Super.Blocks-1
	before := h.p
	switch h.m.IntN(8) {
	case 0:
		if h.p, code = impl.Sync(h.p); code == impl.OK {
			h.durable = h.p.Seq
		}
	case 1:
		if h.p, code = impl.Checkpoint(h.p); code == impl.OK {
			h.durable = h.p.Seq
		}
	case 2:
		h.p, code = impl.Discard(h.p)
	default:
		for _, page := range h.m.drawPages(mostDirty(h.p.Super), low, min(high, low+h.m.between(0, 250))) {
			if next, code := impl.SetPage(h.p, page.Block, page.Data); code == impl.OK {
				h.p = next
			}
		}
		if h.p, code = impl.Commit(h.p); code == impl.OK && h.p.Seq > before.Seq {
			h.states[h.p.Seq] = committedIn(h.p)
			h.durable = before.Seq
		}
	}
	pages, _ := impl.CommittedPages(h.p)
	check(h.t, "committed pages", slices.Equal(pages, h.states[h.p.Seq]), true)
	return code
}

// cut cuts the power and opens the store, perhaps after the power failed again.
func (h *history) cut() {
	d := h.p.Disk
	for {
		kept, torn, bytes := h.m.drawCut(d)
		d, _ = impl.CutPower(d, kept, torn, bytes)
		d.Fuse = []int64{-1, h.m.between(0, 90)}[h.m.IntN(2)]
		p, code := impl.OpenPager(d)
		if code == impl.OK {
			break
		}
		check(h.t, "OpenPager", code, int64(impl.ErrPower))
		d = p.Disk
	}
	d.Fuse = -1
	before := h.p.Seq
	h.p = h.states.checkKept(h.t, "history", d, h.durable, before)
	h.kept[shown(h.p.Seq == before)]++
	h.durable = h.p.Seq
	for seq := range h.states {
		if seq > h.p.Seq {
			delete(h.states, seq)
		}
	}
}

func TestP13Histories(t *testing.T) {
	m := newTypeMaker(96)
	kept := map[string]int{}
	for range 60 {
		blocks := []int64{16, 20, 40, m.between(16, 256)}[m.IntN(4)]
		p := emptyStore(t, blocks, m.between(8, min(64, blocks-4)))
		h := &history{t, m, p, keptStates{0: committedIn(p)}, 0, kept}
		for range 12 {
			h.p.Disk.Fuse = []int64{-1, m.between(0, 40), m.between(0, 200)}[m.IntN(3)]
			for range 8 {
				if h.act() == impl.ErrPower {
					break
				}
			}
			h.cut()
		}
	}
	if kept[shown(true)] < 100 || kept[shown(false)] < 20 {
		t.Errorf("too few: %v", kept)
	}
}

// A store whose log is as long as it may be, and a transaction that fills it.
func TestP13LongTransactions(t *testing.T) {
	p := emptyStore(t, 256, 64)
	states := keptStates{}
	states[0], _ = impl.CommittedPages(p)
	p = committedWith(t, p, pagesAt("first", numbersFrom(66, 125)...)...)
	states[1], _ = impl.CommittedPages(p)
	p = withPages(t, p, pagesAt("second", numbersFrom(100, 159)...)...)
	after, code := impl.Commit(p)
	check(t, "Commit", []any{code, after.Super.Turn, after.At}, []any{int64(impl.OK), p.Super.Turn + 1, int64(63)})
	states[2], _ = impl.CommittedPages(after)
	for _, fuse := range []int64{0, 1, 30, 61, 62, 63, 64, 65, 66, 100, 127, 128, 129, 160, 191, 192, 193, 250} {
		cutFrom, _ := impl.Commit(withFuse(p, fuse))
		for _, kept := range [][]bool{make([]bool, len(cutFrom.Disk.Pending)), slices.Repeat([]bool{true}, len(cutFrom.Disk.Pending))} {
			for torn := int64(-1); torn < int64(min(len(kept), 3)); torn++ {
				cut, _ := impl.CutPower(cutFrom.Disk, kept, torn, 20)
				states.checkKept(t, shown(fuse, torn), cut, 0, 2)
			}
		}
	}
	pages, _ := impl.CommittedPages(after)
	check(t, "pages", []any{len(pages), pages[0], strings.HasPrefix(pages[40], "second 106")}, []any{190, paddedTo64("first 66"), true})
}
