package tests

import (
	"encoding/binary"
	"math"
	"slices"
	"strings"
	"testing"

	"loop.example/g00904/impl"
)

func TestP12Constants(t *testing.T) {
	check(t, "constants", []int64{impl.MaxPages}, []int64{60})
}

func TestP12ListsOfPages(t *testing.T) {
	for i, list := range goodPages() {
		check(t, "ValidPages", []any{i, impl.ValidPages(list), isPageList(list)}, []any{i, true, true})
	}
	for i, list := range badPages() {
		check(t, "ValidPages", []any{i, impl.ValidPages(list), isPageList(list)}, []any{i, false, false})
	}
	m := newTypeMaker(81)
	valid := 0
	for range 2000 {
		var list []impl.Page
		for range m.IntN(4) {
			list = append(list, pageAt(m.between(-1, 6)+m.Int64N(2)*250, blockOf("a")[m.IntN(20)/19:]))
		}
		check(t, "ValidPages of "+shown(list), impl.ValidPages(list), isPageList(list))
		if isPageList(list) {
			valid++
		}
	}
	if valid < 300 || valid > 1700 {
		t.Errorf("%d valid lists", valid)
	}
}

func TestP12PagesThatAreFound(t *testing.T) {
	for i, list := range goodPages() {
		for _, k := range append(oddNumbers(), numbersFrom(-3, 259)...) {
			data, ok := impl.PageOf(list, k)
			want, found := "", false
			for _, page := range list {
				if page.Block == k {
					want, found = page.Data, true
				}
			}
			check(t, "PageOf", []any{i, k, data, ok}, []any{i, k, want, found})
		}
	}
}

// The first page of a block is found also in a list that is not valid.
func TestP12FirstPages(t *testing.T) {
	list := []impl.Page{pageAt(5, "five"), pageAt(3, ""), pageAt(5, blockOf("a")), pageAt(-9, "nine"), pageAt(math.MaxInt64, "last"), pageAt(3, "three")}
	for k, want := range map[int64][]any{5: {"five", true}, 3: {"", true}, -9: {"nine", true}, math.MaxInt64: {"last", true}, 4: {"", false}, 0: {"", false}, 9: {"", false}} {
		data, ok := impl.PageOf(list, k)
		check(t, "PageOf "+shown(k), []any{data, ok}, want)
	}
}

func checkMerged(t *testing.T, what string, a, b []impl.Page) {
	t.Helper()
	got := impl.MergePages(a, b)
	checkShown(t, "MergePages of "+what, shown(got), shown(mergedPages(a, b)))
	check(t, "MergePages of "+what+" is valid", impl.ValidPages(got), true)
	checkNew(t, "MergePages of "+what, []any{a, b}, got)
	for _, list := range [][]impl.Page{a, b} {
		if !isPageList(list) {
			check(t, "MergePages of "+what, got == nil, true)
		}
	}
}

// Every two subsets of five blocks.
func TestP12MergedSubsets(t *testing.T) {
	subset := func(name string, bits int) []impl.Page {
		var blocks []int64
		for i, k := range []int64{0, 1, 7, 254, 255} {
			if bits>>i&1 == 1 {
				blocks = append(blocks, k)
			}
		}
		return pagesAt(name, blocks...)
	}
	for a := range 32 {
		for b := range 32 {
			checkMerged(t, shown(a, b), subset("old", a), subset("new", b))
		}
	}
}

func TestP12MergedLists(t *testing.T) {
	good, bad := goodPages(), badPages()
	for i, a := range good {
		for j, b := range good {
			checkMerged(t, shown(i, j), a, b)
		}
		for j, b := range bad {
			checkMerged(t, shown("a bad second", i, j), a, b)
			checkMerged(t, shown("a bad first", i, j), b, a)
		}
	}
	for i, a := range bad {
		checkMerged(t, shown("bad", i), a, bad[(i+3)%len(bad)])
	}
	m := newTypeMaker(82)
	for i := range 300 {
		checkMerged(t, shown("drawn", i), m.drawPages(12, 0, m.between(3, 255)), m.drawPages(12, 0, m.between(3, 255)))
	}
	five := impl.MergePages(pagesAt("old", 3, 5), pagesAt("new", 4, 5))
	check(t, "example", five, []impl.Page{pageAt(3, paddedTo64("old 3")), pageAt(4, paddedTo64("new 4")), pageAt(5, paddedTo64("new 5"))})
}

func TestP12SizesOfRecords(t *testing.T) {
	for _, pages := range append(oddNumbers(), numbersFrom(-70, 330)...) {
		check(t, "RecordBlocks of "+shown(pages), impl.RecordBlocks(pages), sizeOfRecord(pages))
	}
	for pages, want := range map[int64]int64{0: 0, 1: 3, 32: 34, 33: 36, 59: 62, 60: 63, 61: 0, -1: 0} {
		check(t, "RecordBlocks of "+shown(pages), impl.RecordBlocks(pages), want)
	}
}

// checkRecord checks a record, which need not be valid, and its blocks.
func checkRecord(t *testing.T, what string, r impl.Record) {
	t.Helper()
	check(t, "ValidRecord of "+what, impl.ValidRecord(r), isRecord(r))
	blocks := impl.EncodeRecord(r)
	checkNew(t, "EncodeRecord of "+what, []any{r}, blocks)
	if !isRecord(r) {
		check(t, "EncodeRecord of "+what, blocks == nil, true)
		checkDecoded(t, what, blocksOfRecord(r))
		return
	}
	check(t, "EncodeRecord of "+what, blocks, blocksOfRecord(r))
	check(t, "RecordBlocks of "+what, int64(len(blocks)), impl.RecordBlocks(int64(len(r.Pages))))
	for _, further := range [][]string{nil, {""}, {blockOf("z")}, {"short", blockOf("\x00"), strings.Repeat("a", 65)}, blocks} {
		list := slices.Concat(blocks, further)
		back, code := impl.DecodeRecord(list)
		checkValues(t, "DecodeRecord of "+what, []any{back, code}, []any{r, impl.OK})
		checkNew(t, "DecodeRecord of "+what, []any{r, list}, back)
	}
}

// checkDecoded checks what is decoded from blocks, and returns the code.
func checkDecoded(t *testing.T, what string, blocks []string) int64 {
	t.Helper()
	r, code := impl.DecodeRecord(blocks)
	want, wantCode := recordFrom(blocks)
	if code != wantCode || shown(r) != shown(want) {
		t.Errorf("DecodeRecord of %s: got %s, %d, want %s, %d", what, shown(r), code, shown(want), wantCode)
	}
	if code == impl.OK {
		check(t, what+" is valid", impl.ValidRecord(r), true)
		check(t, what+" is encoded again", impl.EncodeRecord(r), blocks[:impl.RecordBlocks(int64(len(r.Pages)))])
	} else {
		check(t, what, r, impl.Record{})
	}
	return code
}

// Every number of pages with the numbers of transactions at their limits.
func TestP12RecordsAreRestored(t *testing.T) {
	for pages := range int64(70) {
		for _, seq := range []int64{-1, 0, 1, 2, 255, 256, 65536, maxSeq - 1, maxSeq, maxSeq + 1} {
			checkRecord(t, shown(seq, pages), recordOf(seq, pagesAt("a", numbersFrom(1, pages)...)...))
		}
	}
	for _, seq := range oddNumbers() {
		checkRecord(t, shown(seq), recordOf(seq, pagesAt("a", 0, 17, 255)...))
	}
	for i, list := range append(goodPages(), badPages()...) {
		checkRecord(t, shown("list", i), recordOf(7, list...))
	}
	m := newTypeMaker(83)
	for i := range 300 {
		checkRecord(t, shown("drawn", i), m.drawRecord(m.between(1, maxSeq), 70, 0, 255))
	}
}

func TestP12WrittenRecords(t *testing.T) {
	// The checksum is that of the table, two numbers and 60 zero bytes, and of the data.
	list := impl.EncodeRecord(recordOf(258, pageAt(3, blockOf("a")), pageAt(255, blockOf("b"))))
	table := "\x03\x00\xff\x00" + strings.Repeat("\x00", 60)
	sum := impl.PutUint(impl.Crc32(table+blockOf("a")+blockOf("b")), 4)
	head := "LOGR\x02\x01\x00\x00\x00\x00\x00\x00\x02\x00" + sum + strings.Repeat("\x00", 45) + "\x5a"
	check(t, "two pages", list, []string{head, table, blockOf("a"), blockOf("b")})
	list = impl.EncodeRecord(recordOf(maxSeq, pagesAt("a", numbersFrom(200, 232)...)...))
	check(t, "33 pages", []any{len(list), list[0][:14], list[1][:4], list[1][62:], list[2], list[3][:5], list[35][:5]},
		[]any{36, "LOGR\x00\x10\xa5\xd4\xe8\x00\x00\x00\x21\x00", "\xc8\x00\xc9\x00", "\xe7\x00", "\xe8\x00" + strings.Repeat("\x00", 62), "a 200", "a 232"})
}

// Every byte of every block is changed.
func TestP12DamagedBytes(t *testing.T) {
	codes := map[int64]int{}
	for _, r := range []impl.Record{recordOf(1, pagesAt("a", 0)...), recordOf(maxSeq, pagesAt("a", 11, 12)...), recordOf(300, pagesAt("a", numbersFrom(0, 32)...)...), recordOf(9, pagesAt("a", numbersFrom(196, 255)...)...)} {
		blocks := blocksOfRecord(r)
		for i, block := range blocks {
			for at := range 64 {
				for _, flip := range []byte{1 << (at % 8), 255, block[at]} {
					if flip == 0 {
						continue
					}
					b := []byte(block)
					b[at] ^= flip
					blocks[i] = string(b)
					codes[checkDecoded(t, shown("changed", i, at, flip), blocks)]++
				}
			}
			blocks[i] = block
		}
	}
	// The numbers of other transactions are the only changes that make another record.
	if codes[impl.OK] < 5 || codes[impl.OK] > 100 || codes[impl.ErrChecksum] < 1000 || codes[impl.ErrCorrupt] < 300 {
		t.Errorf("codes: %v", codes)
	}
}

// Every value of the bytes of a head.
func TestP12DamagedHeads(t *testing.T) {
	blocks := blocksOfRecord(recordOf(5, pagesAt("a", 11, 12)...))
	head := blocks[0]
	for at := range 64 {
		for c := range 256 {
			blocks[0] = head[:at] + string([]byte{byte(c)}) + head[at+1:]
			code := checkDecoded(t, shown("head", at, c), blocks)
			if at < 4 || at >= 18 {
				want := int64(impl.ErrCorrupt)
				if head[at] == byte(c) {
					want = impl.OK
				}
				check(t, shown("head", at, c), code, want)
			}
		}
	}
	for _, seq := range append(oddNumbers(), maxSeq, maxSeq+1) {
		blocks[0] = headBlockOf(seq, 2, blocks[1:])
		code := checkDecoded(t, shown("seq", seq), blocks)
		check(t, shown("seq", seq), code == impl.OK, isBetween(1, seq, maxSeq))
	}
	many := slices.Concat(blocks[1:], slices.Repeat([]string{blockOf("a")}, 600))
	for _, pages := range append(numbersFrom(0, 530), 32767, 32768, 65280, 65281, 65535) {
		blocks := append([]string{headBlockOf(1, pages, many[:min(pages+3, 600)])}, many...)
		code := checkDecoded(t, shown("number of pages", pages), blocks)
		if !isBetween(1, pages, 60) {
			check(t, shown("number of pages", pages), code, int64(impl.ErrCorrupt))
		}
	}
}

// What is left of a head that is written over zero bytes is not a head.
func TestP12TornHeads(t *testing.T) {
	for _, r := range []impl.Record{recordOf(1, pagesAt("a", 0)...), recordOf(maxSeq, pagesAt("a", numbersFrom(0, 59)...)...)} {
		blocks := blocksOfRecord(r)
		head := blocks[0]
		for bytes := range 65 {
			blocks[0] = head[:bytes] + strings.Repeat("\x00", 64-bytes)
			want := int64(impl.ErrCorrupt)
			if bytes == 64 {
				want = impl.OK
			}
			check(t, shown("torn after", bytes), checkDecoded(t, shown("torn after", bytes), blocks), want)
		}
	}
}

func TestP12BlocksThatAreMissingOrOfAnotherLength(t *testing.T) {
	for _, pages := range []int64{1, 2, 32, 33, 60} {
		blocks := blocksOfRecord(recordOf(7, pagesAt("a", numbersFrom(3, 2+pages)...)...))
		for size := range blocks {
			check(t, shown("first", size), checkDecoded(t, shown("first", pages, size), blocks[:size]), int64(impl.ErrCorrupt))
			check(t, shown("last", size), checkDecoded(t, shown("last", pages, size), blocks[len(blocks)-size:]), int64(impl.ErrCorrupt))
			without := slices.Concat(blocks[:size], blocks[size+1:])
			check(t, shown("without", size), checkDecoded(t, shown("without", pages, size), without), int64(impl.ErrCorrupt))
			without = append(without, blockOf("z"))
			if code := checkDecoded(t, shown("without", pages, size), without); code == impl.OK {
				t.Errorf("a record without the block %d of %d pages", size, pages)
			}
			for _, block := range []string{"", blocks[size][:63], blocks[size] + "\x00", blocks[size][:1], blocks[size] + blocks[size]} {
				bent := slices.Clone(blocks)
				bent[size] = block
				check(t, shown("length", size), checkDecoded(t, shown("length", pages, size, len(block)), bent), int64(impl.ErrCorrupt))
			}
			if size > 1 {
				// All bytes are there, and so the checksum is right.
				bent := slices.Clone(blocks)
				bent[size-1], bent[size] = blocks[size-1][:63], blocks[size-1][63:]+blocks[size]
				check(t, shown("moved byte", size), checkDecoded(t, shown("moved byte", pages, size), bent), int64(impl.ErrCorrupt))
			}
		}
	}
	for _, blocks := range [][]string{nil, {""}, {blockOf("\x00")}, {blockOf("A")}, {"LOGR"}, slices.Repeat([]string{blockOf("\x00")}, 64), slices.Repeat([]string{""}, 64), {strings.Repeat("a", 1000000)}} {
		check(t, "no record", checkDecoded(t, "no record", blocks), int64(impl.ErrCorrupt))
	}
}

// Tables that are wrong although the checksum is right.
func TestP12DamagedTables(t *testing.T) {
	for _, blocks := range [][]int64{{256}, {65535}, {3, 3}, {4, 3}, {3, 256}, {255, 0}, {0, 0}, {1, 3, 2}, {1, 256, 257}, append(numbersFrom(1, 32), 32), append(numbersFrom(1, 32), 0), numbersFrom(224, 256), append(numbersFrom(0, 58), 58)} {
		list := blocksOfRecord(recordOf(7, pagesAt("a", blocks...)...))
		check(t, shown("table", blocks), checkDecoded(t, shown("table", blocks), list), int64(impl.ErrCorrupt))
		list[0] = headBlockOf(7, int64(len(blocks)), list)
		check(t, shown("table and checksum", blocks), checkDecoded(t, shown("table and checksum", blocks), list), int64(impl.ErrChecksum))
	}
	for _, pages := range []int64{1, 2, 31, 32, 33, 34, 60} {
		r := recordOf(7, pagesAt("a", numbersFrom(0, pages-1)...)...)
		size := len(tableBlocksOf(r.Pages)) * 64
		for at := range size {
			list := blocksOfRecord(r)
			table := []byte(strings.Join(list[1:1+size/64], ""))
			if table[at] == 1 && int64(at) < 2*pages {
				continue
			}
			table[at] = 1
			copy(list[1:], blocksIn(string(table)))
			list[0] = headBlockOf(7, pages, list[1:])
			code := checkDecoded(t, shown("table byte", pages, at), list)
			if int64(at) >= 2*pages {
				check(t, shown("zero byte", pages, at), code, int64(impl.ErrCorrupt))
			}
		}
	}
}

// Every combination of the causes of an error.
func TestP12OrderOfErrors(t *testing.T) {
	codes := map[int64]int{}
	for bits := range 64 {
		pages, seq := pagesAt("a", 3, 5), int64(7)
		if bits&1 == 1 {
			pages[1].Block = 3
		}
		if bits>>1&1 == 1 {
			seq = 0
		}
		list := blocksOfRecord(recordOf(seq, pages...))
		for i, cause := range []func(){
			func() { list[3] = blockOf("x") }, func() { list[2] = list[2][1:] }, func() { list = list[:3] }, func() { list[0] = "L" + list[0] },
		} {
			if bits>>(i+2)&1 == 1 {
				cause()
			}
		}
		codes[checkDecoded(t, shown("errors", bits), list)]++
	}
	check(t, "codes of DecodeRecord", codes, map[int64]int{impl.OK: 1, impl.ErrChecksum: 2, impl.ErrCorrupt: 61})
}

// checkScan checks the records of a log, and the state that they make.
func checkScan(t *testing.T, what string, d impl.Disk, s impl.Super) int {
	t.Helper()
	records, at, code := impl.ScanLog(d, s)
	wantRecords, wantAt, wantCode := scannedIn(d, s)
	checkValues(t, "ScanLog of "+what, []any{records, at, code}, []any{wantRecords, wantAt, wantCode})
	pages, seq, stateCode := impl.LogState(d, s)
	wantPages, wantSeq, wantCode := stateIn(d, s)
	checkValues(t, "LogState of "+what, []any{pages, seq, stateCode}, []any{wantPages, wantSeq, wantCode})
	checkNew(t, what, []any{d}, records, pages)
	for i, r := range records {
		check(t, "record of "+what, []any{impl.ValidRecord(r), r.Seq}, []any{true, s.Seq + int64(i) + 1})
	}
	return len(records)
}

func TestP12Logs(t *testing.T) {
	// In a store with 20 blocks and 9 log blocks, the pages are 11 to 19.
	s := superOf(20, 9, 5, 4)
	d := diskWith(20, blockOfSuper(s), blockOf("\x00"))
	six, seven, eight := recordOf(6, pagesAt("six", 11)...), recordOf(7, pagesAt("seven", 12)...), recordOf(8, pagesAt("eight", 19)...)
	long := recordOf(6, pagesAt("long", 11, 12, 13, 14, 15, 16, 17)...)
	torn := withLog(d, six, seven)
	torn.Blocks[5] = torn.Blocks[5][:63] + "\x00"
	for _, c := range []struct {
		what    string
		d       impl.Disk
		records int
	}{
		{"no record", d, 0}, {"zero bytes", withBlocks(d, 2, slices.Repeat([]string{blockOf("\x00")}, 9)), 0}, {"one record", withLog(d, six), 1}, {"two records", withLog(d, six, seven), 2}, {"a full log", withLog(d, six, seven, eight), 3}, {"one long record", withLog(d, long), 1},
		{"a torn head", torn, 1}, {"the first Seq twice", withLog(d, six, six), 1}, {"a Seq left out", withLog(d, six, eight), 1}, {"the second Seq first", withLog(d, seven, eight), 0}, {"Seq of the superblock", withLog(d, recordOf(5, pagesAt("five", 11)...), six), 0}, {"descending", withLog(d, six, recordOf(5, pagesAt("five", 11)...)), 1},
		{"the first page", withLog(d, recordOf(6, pagesAt("six", 11, 19)...), seven), 2}, {"a page of the log", withLog(d, six, recordOf(7, pagesAt("seven", 10)...)), 1}, {"a superblock", withLog(d, recordOf(6, pagesAt("six", 0)...)), 0}, {"a page behind the store", withLog(d, six, recordOf(7, pagesAt("seven", 20)...)), 1}, {"a page behind the store among others", withLog(d, recordOf(6, pagesAt("six", 11, 255)...)), 0}, {"a page of the log among others", withLog(d, recordOf(6, pagesAt("six", 10, 11)...)), 0},
		{"a record that ends behind the log", withLog(d, recordOf(6, pagesAt("long", 11, 12, 13, 14, 15, 16, 17, 18)...)), 0}, {"a second record that ends behind the log", withLog(d, six, recordOf(7, pagesAt("long", 11, 12, 13, 14, 15)...)), 1}, {"a record behind a gap", withBlocks(withLog(d, six), 6, blocksOfRecord(seven)), 1}, {"a record behind the first block", withBlocks(d, 3, blocksOfRecord(six)), 0}, {"the same page again and again", withLog(d, six, recordOf(7, pagesAt("seven", 11)...), recordOf(8, pagesAt("eight", 11)...)), 3},
	} {
		check(t, c.what, checkScan(t, c.what, c.d, s), c.records)
	}
	pages, seq, code := impl.LogState(withLog(d, recordOf(6, pagesAt("six", 13)...), recordOf(7, pagesAt("seven", 12, 14)...), recordOf(8, pagesAt("eight", 13)...)), superOf(20, 10, 5, 4))
	checkValues(t, "LogState", []any{pages, seq, code}, []any{slices.Concat(pagesAt("seven", 12), pagesAt("eight", 13), pagesAt("seven", 14)), 8, impl.OK})
}

func TestP12PendingRecords(t *testing.T) {
	s := superOf(20, 9, 5, 4)
	six, seven := recordOf(6, pagesAt("six", 11)...), recordOf(7, pagesAt("seven", 12)...)
	for size := range 7 {
		d := numberedDisk(20)
		for i, block := range slices.Concat(blocksOfRecord(six), blocksOfRecord(seven))[:size] {
			d, _ = impl.WriteBlock(d, int64(i)+2, block)
		}
		check(t, shown("pending", size), checkScan(t, shown("pending", size), d, s), size/3)
		check(t, shown("off", size), checkScan(t, shown("off", size), turnedOff(d), s), size/3)
		d, _ = impl.WriteBlock(d, 2, blockOf("\x00"))
		check(t, shown("overwritten", size), checkScan(t, shown("overwritten", size), d, s), 0)
	}
}

// A record at the end of the log, with every damage that may end the scan.
func TestP12LogsThatEndInDamage(t *testing.T) {
	s := superOf(24, 10, 0, 0)
	first, second := recordOf(1, pagesAt("first", 12, 23)...), recordOf(2, pagesAt("second", 12, 13, 14)...)
	whole := withLog(numberedDisk(24), first, second)
	check(t, "whole", checkScan(t, "whole", whole, s), 2)
	for k := 2; k < 11; k++ {
		for at := range 64 {
			b := []byte(whole.Blocks[k])
			b[at] ^= 0x5a
			want := 0
			if k >= 6 {
				want = 1
			}
			what := shown("changed", k, at)
			check(t, what, checkScan(t, what, withBlocks(whole, int64(k), []string{string(b)}), s), want)
		}
	}
	for _, log := range numbersFrom(8, 20) {
		want := 1
		if log >= 9 && log <= 10 {
			want = 2
		}
		if log > 10 {
			// The first page would be in the log.
			want = 0
		}
		check(t, shown("log", log), checkScan(t, shown("log", log), whole, superOf(24, log, 0, 0)), want)
	}
}

func TestP12LastNumbers(t *testing.T) {
	d := withLog(numberedDisk(40), recordOf(maxSeq-1, pagesAt("a", 20)...), recordOf(maxSeq, pagesAt("b", 20)...), recordOf(maxSeq+1, pagesAt("c", 20)...))
	for seq, want := range map[int64]int{maxSeq - 3: 0, maxSeq - 2: 2, maxSeq - 1: 0, maxSeq: 0} {
		check(t, shown("seq", seq), checkScan(t, shown("seq", seq), d, superOf(40, 12, seq, 0)), want)
	}
	d = withLog(numberedDisk(40), recordOf(0, pagesAt("a", 20)...), recordOf(1, pagesAt("b", 20)...))
	check(t, "seq 0", checkScan(t, "seq 0", d, superOf(40, 12, 0, 0)), 0)
	d = withLog(numberedDisk(40), recordOf(1, pagesAt("a", 20)...), recordOf(2, pagesAt("b", 20)...))
	check(t, "seq 1", checkScan(t, "seq 1", d, superOf(40, 12, 0, 0)), 2)
}

// Drawn logs, some of whose records are wrong.
func TestP12DrawnLogs(t *testing.T) {
	m := newTypeMaker(84)
	lengths := map[int]int{}
	for range 400 {
		s := m.drawSuper([]int64{16, 40, 100, 256}[m.IntN(4)])
		s.Seq = min(s.Seq, maxSeq-20)
		d := numberedDisk(int(s.Blocks))
		at, seq := int64(0), s.Seq
		for {
			low, high := 2+s.Log, s.Blocks-1
			seq++
			switch m.IntN(20) {
			case 0:
				seq += m.between(-1, 1)
			case 1:
				low, high = max(0, low-2), min(255, high+2)
			}
			blocks := blocksOfRecord(m.drawRecord(seq, m.IntN(60)+1, low, high))
			if m.IntN(20) == 0 {
				blocks[m.IntN(len(blocks))] = m.drawBlock()
			}
			if at+int64(len(blocks)) > s.Log && m.IntN(4) > 0 || 2+at+int64(len(blocks)) > s.Blocks {
				break
			}
			d = withBlocks(d, 2+at, blocks)
			at += int64(len(blocks))
			if at > s.Log {
				break
			}
		}
		lengths[min(checkScan(t, "a drawn log", d, s), 3)]++
	}
	if lengths[0] < 20 || lengths[1] < 20 || lengths[2] < 10 || lengths[3] < 5 {
		t.Errorf("too few of a length: %v", lengths)
	}
}

func TestP12LogsThatAreNotValid(t *testing.T) {
	good := withLog(numberedDisk(40), recordOf(1, pagesAt("a", 20)...))
	check(t, "good", checkScan(t, "good", good, superOf(40, 8, 0, 0)), 1)
	none := func(d impl.Disk, s impl.Super) {
		records, at, code := impl.ScanLog(d, s)
		checkValues(t, "ScanLog", []any{records, at, code}, []any{[]impl.Record{}, 0, impl.ErrInvalid})
		pages, seq, code := impl.LogState(d, s)
		checkValues(t, "LogState", []any{pages, seq, code}, []any{[]impl.Page{}, 0, impl.ErrInvalid})
	}
	for _, s := range append(badSupers(), superOf(39, 8, 0, 0), superOf(41, 8, 0, 0), superOf(16, 8, 0, 0), superOf(256, 8, 0, 0)) {
		none(good, s)
		none(turnedOff(good), s)
	}
	for _, d := range badDisks() {
		for _, s := range append(badSupers(), superOf(16, 8, 0, 0), superOf(40, 8, 0, 0), superOf(256, 8, 0, 0), superOf(int64(len(d.Blocks)), 8, 0, 0)) {
			none(d, s)
		}
	}
}

func logResults(d impl.Disk, s impl.Super, a, b []impl.Page, r impl.Record, blocks []string, k int64) []any {
	data, found := impl.PageOf(a, k)
	decoded, decodeCode := impl.DecodeRecord(blocks)
	records, at, scanCode := impl.ScanLog(d, s)
	pages, seq, stateCode := impl.LogState(d, s)
	return []any{impl.ValidPages(a), data, found, impl.MergePages(a, b), impl.ValidRecord(r), impl.RecordBlocks(k), impl.EncodeRecord(r), decoded, decodeCode, records, at, scanCode, pages, seq, stateCode}
}

func roomyTexts(list []string) []string {
	return append(slices.Clone(list), "spare", blockOf("s"))[:len(list)]
}

func TestP1LogsReturnForAllArguments(t *testing.T) {
	numbers, texts := oddNumbers(), oddStrings()
	lists := append(badPages(), goodPages()...)
	disks := append(badDisks(), numberedDisk(16), withLog(numberedDisk(40), recordOf(1, pagesAt("a", 20)...)))
	for i, k := range numbers {
		d, a, b := disks[i*5%len(disks)], lists[i%len(lists)], lists[i*7%len(lists)]
		s := superOf(int64(len(d.Blocks)), 8, numbers[i*3%len(numbers)], k)
		r := impl.Record{Seq: k, Pages: a}
		blocks := []string{texts[i%len(texts)], texts[i*3%len(texts)]}
		if i%2 == 0 {
			blocks = append(blocksOfRecord(recordOf(7, pagesAt("a", 3)...))[:i%3+1], blocks...)
		}
		for _, d := range []impl.Disk{d, disks[len(disks)-1]} {
			first := shown(logResults(d, s, a, b, r, blocks, k)...)
			roomyRecord := impl.Record{Seq: k, Pages: roomyPages(a)}
			checkShown(t, "second call", shown(logResults(roomyDisk(d), s, roomyPages(a), roomyPages(b), roomyRecord, roomyTexts(blocks), k)...), first)
		}
	}
}

func TestP1LogsLeaveArgumentsAsTheyAre(t *testing.T) {
	m := newTypeMaker(85)
	for i := range 200 {
		s := superOf(40, 12, m.between(0, 3), 0)
		r := m.drawRecord(s.Seq+1, 6, 14, 39)
		d := roomyDisk(withLog(numberedDisk(40, manyPuts(i % 3)[i%3/2:]...), r, m.drawRecord(s.Seq+2, 2, 14, 39)))
		a, b := roomyPages(r.Pages), roomyPages(m.drawPages(9, 0, 255))
		r.Pages = a
		blocks := roomyTexts(blocksOfRecord(r))
		wide := func() string {
			return shown(wideDisk(d), widePages(a), widePages(b), blocks[:cap(blocks)])
		}
		before := wide()
		results := logResults(d, s, a, b, r, blocks, a[0].Block)
		checkNew(t, "results", []any{d, a, b, blocks}, results...)
		first := shown(results...)
		checkShown(t, "second call", shown(logResults(d, s, a, b, r, blocks, a[0].Block)...), first)
		checkShown(t, "arguments after the calls", wide(), before)
	}
}

// A number of a transaction that is too great for an int64 is not taken for another one.
func TestP12NumbersWithASign(t *testing.T) {
	blocks := blocksOfRecord(recordOf(7, pagesAt("a", 3)...))
	for _, seq := range []uint64{1 << 63, 1<<63 + 7, math.MaxUint64, 1<<63 - 1, maxSeq + 1} {
		head := []byte(blocks[0])
		binary.LittleEndian.PutUint64(head[4:], seq)
		check(t, shown(seq), checkDecoded(t, shown(seq), append([]string{string(head)}, blocks[1:]...)), int64(impl.ErrCorrupt))
	}
}
