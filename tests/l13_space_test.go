package tests

import (
	"maps"
	"math"
	"slices"
	"strings"
	"testing"

	"loop.example/g00904/impl"
)

func TestP14SizesInBlocks(t *testing.T) {
	for size, want := range map[int64]int64{-1: 0, 0: 1, 1: 1, 63: 1, 64: 1, 65: 2, 128: 2, 129: 3, 16384: 256, 16385: 257, 65535: 1024, 65536: 1024, 65537: 0} {
		check(t, shown("BlocksFor", size), impl.BlocksFor(size), want)
	}
	for _, size := range append(oddNumbers(), numbersFrom(-2, 700)...) {
		check(t, shown("BlocksFor", size), impl.BlocksFor(size), blocksOf(size))
	}
}

func TestP14EmptyStores(t *testing.T) {
	for _, blocks := range []int64{16, 17, 40, 255, 256} {
		for _, log := range []int64{8, 9, 12, min(64, blocks-4)} {
			p := emptyStore(t, blocks, log)
			checkSpace(t, shown("empty", blocks, log), p)
			check(t, "FreeRuns", impl.FreeRuns(p), []impl.Run{{At: log + 3, Count: blocks - log - 3}})
			all, at, code := checkAllocate(t, "all", p, blocks-log-3)
			check(t, "all blocks", []any{at, code, impl.FreeCount(all), len(impl.FreeRuns(all))}, []any{log + 3, int64(impl.OK), int64(0), 0})
			checkSpace(t, shown("full", blocks, log), all)
			for _, n := range []int64{1, 2, 255, 256} {
				_, _, code = checkAllocate(t, "full", all, n)
				check(t, "no block is left", code, int64(impl.ErrFull))
			}
			_, _, code = checkAllocate(t, "one more", p, blocks-log-2)
			check(t, "one more", code, int64(impl.ErrFull))
		}
	}
}

// The example of the document.
func TestP14Example(t *testing.T) {
	p := emptyStore(t, 40, 8)
	check(t, "FreeRuns", impl.FreeRuns(p), []impl.Run{{At: 11, Count: 29}})
	p, _, _ = checkAllocate(t, "example", p, 6)
	p, code := checkRelease(t, "example", p, 12, 2)
	check(t, "Release", code, int64(impl.OK))
	_, two, _ := checkAllocate(t, "example", p, 2)
	_, three, _ := checkAllocate(t, "example", p, 3)
	check(t, "Allocate", []int64{two, three}, []int64{12, 17})
}

// spaceRoots are numbers for SetRoot with the codes that it should return.
func spaceRoots(p impl.Pager) map[int64]int64 {
	first, blocks := p.Super.Log+3, p.Super.Blocks
	codes := map[int64]int64{0: impl.OK, first: impl.OK, first + 1: impl.OK, blocks - 2: impl.OK, blocks - 1: impl.OK}
	for _, k := range []int64{-1, -2, 1, 2, first - 2, first - 1, blocks, blocks + 1, 256, 257, 65535, 65536, 65536 + first, -65536, math.MinInt64, math.MaxInt64} {
		codes[k] = impl.ErrRange
	}
	return codes
}

func TestP14Roots(t *testing.T) {
	m := newTypeMaker(97)
	for _, blocks := range []int64{20, 40, 255, 256} {
		p := emptyStore(t, blocks, 8)
		root, code := impl.RootOf(p)
		check(t, "RootOf an empty store", []int64{root, code}, []int64{0, impl.OK})
		p = withArea(p, 0, m.drawBlock())
		for at, want := range spaceRoots(p) {
			after, code := checkSetRoot(t, "roots", p, at)
			check(t, shown("SetRoot", blocks, at), code, want)
			checkSpace(t, shown("after SetRoot", at), after)
			if code == impl.OK {
				root, code = impl.RootOf(after)
				check(t, shown("RootOf after SetRoot", at), []int64{root, code}, []int64{at, impl.OK})
				_, page := areaOf(after)
				_, old := areaOf(p)
				check(t, "the rest of the page", page[2:], old[2:])
				again, code := checkSetRoot(t, "the same root", after, at)
				check(t, "the same root", []any{code, impl.SamePager(again, after)}, []any{int64(impl.OK), true})
			}
		}
	}
	// A root is what is stored, whether it is a data block or not.
	p := emptyStore(t, 40, 8)
	for _, root := range []int64{0, 1, 10, 11, 39, 40, 255, 256, 257, 511, 65535} {
		p = withArea(p, 0, string([]byte{byte(root), byte(root / 256)})+strings.Repeat("\xa5", 62))
		got, code := impl.RootOf(p)
		check(t, shown("stored root", root), []int64{got, code}, []int64{root, impl.OK})
	}
}

// All ways to allocate nine blocks, the lengths of a run that is allocated, and
// all runs that are released.
func TestP14AllSmallStores(t *testing.T) {
	codes := map[int64]int{}
	for bits := range 512 {
		text := []byte(".........")
		for i := range text {
			if bits>>i&1 == 1 {
				text[i] = 'x'
			}
		}
		p := spacedStore(t, string(text))
		check(t, "text", spaceText(p), string(text))
		checkSpace(t, string(text), p)
		for n := int64(-1); n <= 10; n++ {
			_, _, code := checkAllocate(t, string(text), p, n)
			codes[code]++
			for at := int64(10); at <= 20; at++ {
				_, code := checkRelease(t, string(text), p, at, n)
				codes[code+100]++
			}
		}
	}
	if codes[impl.OK] < 1000 || codes[impl.ErrFull] < 1000 || codes[100] < 1000 || codes[100+impl.ErrState] < 1000 || codes[100+impl.ErrRange] < 1000 {
		t.Errorf("too few of a code: %v", codes)
	}
}

// The store before and after an allocation of n blocks.
func TestP14ChoiceAmongFreeRuns(t *testing.T) {
	for _, c := range []struct {
		before string
		n      int64
		after  string
	}{
		{"..........", 1, "x........."},
		{"..........", 10, "xxxxxxxxxx"},
		// Equal lengths: the first one.
		{"..x..x..x..", 2, "xxx..x..x.."},
		{"..x..x..x..", 1, "x.x..x..x.."},
		{"x...x...x...", 3, "xxxxx...x..."},
		// The shortest that suffices, wherever it is.
		{"....x...x..x.", 1, "....x...x..xx"},
		{"....x...x..x.", 2, "....x...xxxx."},
		{"....x...x..x.", 3, "....xxxxx..x."},
		{"....x...x..x.", 4, "xxxxx...x..x."},
		{".x..x...x....", 1, "xx..x...x...."},
		{".x..x...x....", 2, ".xxxx...x...."},
		{".x..x...x....", 3, ".x..xxxxx...."},
		{".x..x...x....", 4, ".x..x...xxxxx"},
		// Its beginning, and not a shorter one that does not suffice.
		{".....x......", 4, "xxxx.x......"},
		{"......x.....", 4, "......xxxxx."},
		{"x.x.x.x.....x....", 2, "x.x.x.x.....xxx.."},
		{"x.x.x.x....x....", 3, "x.x.x.xxxx.x...."},
		// The only one.
		{"xxxxxxxxxx.", 1, "xxxxxxxxxxx"},
		{".xxxxxxxxxx", 1, "xxxxxxxxxxx"},
		{"xxxxx...xxxxx", 3, "xxxxxxxxxxxxx"},
	} {
		p := spacedStore(t, c.before)
		after, at, code := checkAllocate(t, c.before, p, c.n)
		first := int64(0)
		for c.before[first] == c.after[first] {
			first++
		}
		check(t, shown("Allocate", c.n, "in", c.before), []any{spaceText(after), at, code}, []any{c.after, 11 + first, int64(impl.OK)})
		back, code := checkRelease(t, c.after, after, at, c.n)
		check(t, shown("Release", c.n, "in", c.after), []any{spaceText(back), code}, []any{c.before, int64(impl.OK)})
	}
	for _, c := range []struct {
		before string
		n      int64
	}{{"xxxxxxx", 1}, {"..x..x..", 3}, {"......", 7}, {"......", 256}, {"x.x.x.x.", 2}} {
		_, _, code := checkAllocate(t, c.before, spacedStore(t, c.before), c.n)
		check(t, shown("Allocate", c.n, "in", c.before), code, int64(impl.ErrFull))
	}
}

// Nothing but the bits of data blocks counts, and nothing else is changed.
func TestP14UnusedBytesAndBits(t *testing.T) {
	m := newTypeMaker(98)
	for _, blocks := range []int64{20, 23, 24, 40, 255, 256} {
		for _, log := range []int64{8, 12, 13, 14, 16} {
			if log > blocks-4 {
				continue
			}
			for _, fill := range []string{"\x00", "\xff", "\xa5"} {
				p := withArea(emptyStore(t, blocks, log), 0, blockOf(fill))
				_, old := areaOf(p)
				first := log + 3
				var unused []int64
				for k := range int64(256) {
					if k < first || k >= blocks {
						unused = append(unused, k)
					}
				}
				all := numbersFrom(first, blocks-1)
				p = withArea(p, m.IntN(2), withBits(old, false, all...))
				checkSpace(t, shown("free", blocks, log), p)
				check(t, "FreeCount", impl.FreeCount(p), blocks-first)
				p, at, code := checkAllocate(t, "all", p, blocks-first)
				check(t, "all", []int64{at, code}, []int64{first, impl.OK})
				_, page := areaOf(p)
				check(t, "the page", page, withBits(old, true, all...))
				p, code = checkSetRoot(t, "all", p, blocks-1)
				check(t, "SetRoot", code, int64(impl.OK))
				p, code = checkRelease(t, "all", p, first, blocks-first)
				check(t, "Release", code, int64(impl.OK))
				_, page = areaOf(p)
				check(t, "the page", page[2:], withBits(old, false, all...)[2:])
				for _, k := range unused {
					check(t, shown("IsAllocated", k), impl.IsAllocated(p, k), false)
					_, code = checkRelease(t, "unused", p, k, 1)
					check(t, shown("Release", k), code, int64(impl.ErrRange))
				}
			}
		}
	}
}

func TestP14RunsThatAreReleased(t *testing.T) {
	for _, c := range []struct {
		at, n int64
		code  int64
	}{
		{11, 3, impl.OK}, {12, 1, impl.OK}, {11, 1, impl.OK}, {13, 1, impl.OK}, {15, 5, impl.OK}, {16, 3, impl.OK},
		// A block of it is free: the first one, the last one, or one between.
		{14, 1, impl.ErrState}, {14, 2, impl.ErrState}, {13, 2, impl.ErrState}, {11, 9, impl.ErrState}, {12, 4, impl.ErrState},
		{10, 1, impl.ErrRange}, {10, 2, impl.ErrRange}, {10, 4, impl.ErrRange}, {1, 11, impl.ErrRange}, {0, 1, impl.ErrRange}, {-1, 1, impl.ErrRange}, {0, 20, impl.ErrRange},
		{19, 2, impl.ErrRange}, {20, 1, impl.ErrRange}, {15, 6, impl.ErrRange}, {11, 10, impl.ErrRange}, {14, 7, impl.ErrRange},
		{11, 0, impl.ErrRange}, {11, -1, impl.ErrRange}, {12, -1, impl.ErrRange}, {20, -5, impl.ErrRange}, {11, 256, impl.ErrRange}, {11, 257, impl.ErrRange}, {-245, 256, impl.ErrRange}, {14, 0, impl.ErrRange},
		{11, math.MaxInt64, impl.ErrRange}, {11, math.MinInt64, impl.ErrRange}, {math.MaxInt64, 1, impl.ErrRange}, {math.MaxInt64, math.MaxInt64, impl.ErrRange}, {math.MinInt64, 1, impl.ErrRange}, {math.MinInt64 + 20, math.MaxInt64, impl.ErrRange}, {math.MaxInt64 - 255, 256, impl.ErrRange}, {math.MaxInt64, 20, impl.ErrRange},
	} {
		p := spacedStore(t, "xxx.xxxxx")
		after, code := checkRelease(t, "xxx.xxxxx", p, c.at, c.n)
		check(t, shown("Release", c.at, c.n), code, c.code)
		if code == impl.OK {
			_, code = checkRelease(t, "twice", after, c.at, c.n)
			check(t, shown("Release twice", c.at, c.n), code, int64(impl.ErrState))
			_, code = checkRelease(t, "one of them", after, c.at+c.n-1, 1)
			check(t, shown("Release of one of them", c.at, c.n), code, int64(impl.ErrState))
		}
	}
}

func TestP14NumbersOfBlocks(t *testing.T) {
	p := emptyStore(t, 256, 8)
	for n, want := range map[int64]int64{-1: impl.ErrRange, 0: impl.ErrRange, 1: impl.OK, 244: impl.OK, 245: impl.OK, 246: impl.ErrFull, 255: impl.ErrFull, 256: impl.ErrFull, 257: impl.ErrRange, math.MinInt64: impl.ErrRange, math.MaxInt64: impl.ErrRange} {
		_, _, code := checkAllocate(t, "numbers", p, n)
		check(t, shown("Allocate", n), code, want)
	}
	full, _, _ := checkAllocate(t, "numbers", p, 245)
	for n, want := range map[int64]int64{0: impl.ErrRange, 1: impl.ErrFull, 256: impl.ErrFull, 257: impl.ErrRange} {
		_, _, code := checkAllocate(t, "full", full, n)
		check(t, shown("Allocate in a full store", n), code, want)
	}
}

// filledStore returns a store whose current transaction has as many pages as
// the log takes, with or without the allocation page; the runs at low and high
// have been written.
func filledStore(t *testing.T, withAllocationPage bool) impl.Pager {
	t.Helper()
	p := spacedStore(t, "xxx......xxx.................")
	pages := pagesAt("dirty", 20, 22, 24, 26, 28, 30)
	if withAllocationPage {
		_, area := areaOf(p)
		pages[0] = pageAt(10, area)
	}
	p = withPages(t, p, pages...)
	check(t, "pages", len(p.Dirty), mostDirty(p.Super))
	return p
}

func TestP14TransactionsAtTheirLimit(t *testing.T) {
	for _, withAllocationPage := range []bool{false, true} {
		want := int64(impl.ErrFull)
		if withAllocationPage {
			want = impl.OK
		}
		p := filledStore(t, withAllocationPage)
		_, _, code := checkAllocate(t, "filled", p, 3)
		check(t, "Allocate", code, want)
		_, code = checkRelease(t, "filled", p, 11, 3)
		check(t, "Release", code, want)
		_, code = checkSetRoot(t, "filled", p, 11)
		check(t, "SetRoot", code, want)
		_, code = checkSetRoot(t, "filled", p, 0)
		check(t, "SetRoot", code, want)
		p.Dirty = p.Dirty[:5]
		_, _, code = checkAllocate(t, "one page fewer", p, 3)
		check(t, "Allocate with one page fewer", code, int64(impl.OK))
	}
	// Runs of which some pages, or all of them, are in the transaction already.
	p := withPages(t, spacedStore(t, "xxxxxxxxxxxxxxxxxx"), pagesAt("dirty", 12, 13, 14, 16, 20)...)
	for _, c := range []struct {
		at, blocks int64
		code       int64
	}{{12, 3, impl.OK}, {12, 4, impl.OK}, {12, 5, impl.OK}, {12, 6, impl.ErrFull}, {11, 5, impl.ErrFull}, {11, 4, impl.OK}, {17, 1, impl.OK}, {17, 2, impl.ErrFull}, {20, 2, impl.OK}, {20, 3, impl.ErrFull}} {
		_, code := checkWriteRun(t, "limit", p, c.at, strings.Repeat("w", int(64*c.blocks)))
		check(t, shown("WriteRun", c.at, c.blocks), code, c.code)
	}
	// As many pages as a record has, and one more.
	p = emptyStore(t, 256, 64)
	for blocks, want := range map[int]int64{59: impl.OK, 60: impl.OK, 61: impl.ErrFull, 189: impl.ErrFull, 190: impl.ErrRange, 1024: impl.ErrRange, 1025: impl.ErrRange} {
		after, code := checkWriteRun(t, "limit", p, 67, strings.Repeat("w", 64*blocks-1))
		check(t, shown("WriteRun", blocks), code, want)
		if code == impl.OK {
			check(t, "pages", len(after.Dirty), blocks)
		}
	}
}

// runPlaces are first blocks and sizes of runs in a store whose data blocks are 11 to 39.
func runPlaces() (places []int64, sizes []int64) {
	places = append(numbersFrom(9, 13), 0, -1, 1, 35, 36, 37, 38, 39, 40, 41, 256, -245, math.MinInt64, math.MaxInt64, math.MaxInt64-1, math.MaxInt64-28)
	sizes = []int64{-1, 0, 1, 2, 63, 64, 65, 127, 128, 129, 191, 192, 193, 320, 29*64 - 1, 29 * 64, 29*64 + 1, 16384, 65535, 65536, 65537, math.MinInt64, math.MaxInt64, math.MaxInt64 - 63}
	return places, sizes
}

func TestP14BytesOfRuns(t *testing.T) {
	places, sizes := runPlaces()
	p := numberedPager(40, 8)
	p.Logged, p.Dirty = pagesAt("logged", 11, 12, 39), pagesAt("dirty", 12, 38)
	p.Disk.Pending = []impl.Put{put(37, blockOf("p"))}
	codes := map[int64]int{}
	for _, at := range places {
		for _, size := range sizes {
			_, code := checkReadRun(t, "runs", p, at, size)
			codes[code]++
			if !isBetween(0, size, 65537) {
				continue
			}
			after, code := checkWriteRun(t, "runs", p, at, strings.Repeat("w", int(size)))
			codes[100+code]++
			if code == impl.OK {
				data, _ := checkReadRun(t, "written", after, at, size)
				check(t, "what was written", data, strings.Repeat("w", int(size)))
			}
		}
	}
	check(t, "first 130 bytes", first(checkReadRun(t, "runs", p, 11, 130)), p.Logged[0].Data+p.Dirty[0].Data+p.Disk.Blocks[13][:2])
	check(t, "last 180 bytes", first(checkReadRun(t, "runs", p, 37, 180)), blockOf("p")+p.Dirty[1].Data+p.Logged[2].Data[:52])
	if codes[0] < 80 || codes[impl.ErrRange] < 100 || codes[100] < 50 || codes[100+impl.ErrRange] < 50 || codes[100+impl.ErrFull] < 2 {
		t.Errorf("too few of a code: %v", codes)
	}
}

func first(s string, code int64) string {
	return s
}

// The last block of a run is filled up with zero bytes, also over other bytes.
func TestP14RunsAreFilledUp(t *testing.T) {
	p := emptyStore(t, 40, 20)
	p, code := impl.WriteRun(p, 23, strings.Repeat("o", 512))
	check(t, "WriteRun", code, int64(impl.OK))
	for size := range 257 {
		after, code := checkWriteRun(t, "filled up", p, 24, strings.Repeat("n", size))
		check(t, "WriteRun", code, int64(impl.OK))
		blocks := int(impl.BlocksFor(int64(size)))
		data, code := checkReadRun(t, "filled up", after, 23, 512)
		want := strings.Repeat("o", 64) + strings.Repeat("n", size) + strings.Repeat("\x00", 64*blocks-size) + strings.Repeat("o", 448-64*blocks)
		check(t, shown("bytes around", size), []any{data, code}, []any{want, int64(impl.OK)})
	}
	// Neither allocated blocks nor the allocation page matter for it.
	check(t, "pages", []any{len(p.Dirty), impl.FreeCount(p)}, []any{8, int64(17)})
}

func TestP14DrawnSpaces(t *testing.T) {
	m := newTypeMaker(99)
	codes := map[string]int{}
	for i := range 600 {
		what := shown("drawn", i)
		p := m.drawSpaced()
		if i%10 == 0 {
			checkSpace(t, what, p)
		}
		for _, n := range []int64{1, 2, m.between(1, 9), m.between(-1, 0), m.between(100, 300)} {
			after, at, code := checkAllocate(t, what, p, n)
			codes[shown("Allocate", code)]++
			if code == impl.OK {
				back, code := checkRelease(t, what, after, at, n)
				check(t, "Release after Allocate", []any{code, impl.FreeRuns(back)}, []any{int64(impl.OK), freeIn(p)})
			}
			_, code = checkRelease(t, what, p, m.between(p.Super.Log, p.Super.Blocks), n)
			codes[shown("Release", code)]++
		}
		_, code := checkSetRoot(t, what, p, m.between(-1, p.Super.Blocks))
		codes[shown("SetRoot", code)]++
		at := m.between(p.Super.Log, p.Super.Blocks)
		_, code = checkReadRun(t, what, p, at, m.between(-1, 1000))
		codes[shown("ReadRun", code)]++
		data := strings.Repeat(m.drawBlock(), 10)[:m.IntN(600)]
		after, code := checkWriteRun(t, what, p, at, data)
		codes[shown("WriteRun", code)]++
		if code == impl.OK {
			got, _ := impl.ReadRun(after, at, int64(len(data)))
			check(t, "ReadRun after WriteRun", got, data)
		}
	}
	for _, name := range []string{"Allocate 0", "Allocate 2", "Allocate 5", "Release 0", "Release 2", "Release 5", "Release 6", "SetRoot 0", "SetRoot 2", "SetRoot 5", "ReadRun 0", "ReadRun 2", "WriteRun 0", "WriteRun 2", "WriteRun 5"} {
		if codes["["+name+"]"] < 20 {
			t.Errorf("too few of %s: %v", name, codes)
		}
	}
}

// Every combination of the causes of an error.
func TestP14OrderOfErrors(t *testing.T) {
	codes := map[string]map[int64]int{}
	count := func(name string, code int64) {
		if codes[name] == nil {
			codes[name] = map[int64]int{}
		}
		codes[name][code]++
	}
	for bits := range 32 {
		p, at, n, size := filledStore(t, false), int64(20), int64(3), int64(200)
		for i, cause := range []func(){
			func() { p.Dirty = p.Dirty[1:] }, func() { p.At = 9 }, func() { n = 257 }, func() { at = 10 }, func() { size = 65537 },
		} {
			if bits>>i&1 == 1 {
				cause()
			}
		}
		what := shown("errors", bits)
		_, _, code := checkAllocate(t, what, p, n)
		count("Allocate", code)
		_, _, code = checkAllocate(t, what, p, n+200)
		count("Allocate more", code)
		_, code = checkRelease(t, what, p, at, n)
		count("Release", code)
		_, code = checkRelease(t, what, p, at+3, n)
		count("Release of a free block", code)
		_, code = checkSetRoot(t, what, p, at)
		count("SetRoot", code)
		_, code = checkReadRun(t, what, p, at, size)
		count("ReadRun", code)
		_, code = checkWriteRun(t, what, p, at, strings.Repeat("a", int(size)))
		count("WriteRun", code)
	}
	check(t, "codes", codes, map[string]map[int64]int{
		"Allocate": {0: 4, 1: 16, 2: 8, 5: 4}, "Allocate more": {1: 16, 2: 8, 5: 8}, "Release": {0: 2, 1: 16, 2: 12, 5: 2}, "Release of a free block": {1: 16, 2: 8, 6: 8},
		"SetRoot": {0: 4, 1: 16, 2: 8, 5: 4}, "ReadRun": {0: 4, 1: 16, 2: 12}, "WriteRun": {1: 16, 2: 12, 5: 4},
	})
}

func TestP14PagersThatAreNotValid(t *testing.T) {
	for i, p := range badPagers() {
		what := shown("bad", i)
		checkSpace(t, what, p)
		for _, k := range []int64{-1, 0, 1, 13, 20, 39, 40, 257, 65537} {
			_, _, code := checkAllocate(t, what, p, k)
			codes := []int64{code}
			for _, at := range []int64{0, 13, 39, 40, math.MaxInt64} {
				_, code = checkRelease(t, what, p, at, k)
				codes = append(codes, code)
				_, code = checkReadRun(t, what, p, at, k)
				codes = append(codes, code)
				_, code = checkWriteRun(t, what, p, at, strings.Repeat("a", int(max(k, 0))))
				codes = append(codes, code)
				_, code = checkSetRoot(t, what, p, at)
				codes = append(codes, code)
			}
			check(t, what, codes, slices.Repeat([]int64{impl.ErrInvalid}, 21))
		}
	}
}

// A store without power is still read, and its current transaction changed.
func TestP14StoresWithoutPower(t *testing.T) {
	p := spacedStore(t, "x.x..x")
	p.Disk.Off, p.Disk.Pending, p.Disk.Fuse = true, manyPuts(10), 0
	checkSpace(t, "off", p)
	_, at, code := checkAllocate(t, "off", p, 2)
	check(t, "Allocate", []int64{at, code}, []int64{14, impl.OK})
	_, code = checkRelease(t, "off", p, 16, 1)
	check(t, "Release", code, int64(impl.OK))
	_, code = checkWriteRun(t, "off", p, 12, "data")
	check(t, "WriteRun", code, int64(impl.OK))
}

// Runs are allocated, written, and released in some order; some transactions
// are ended, and others abandoned.
func TestP14Histories(t *testing.T) {
	m := newTypeMaker(100)
	codes := map[int64]int{}
	for i := range 40 {
		blocks := []int64{20, 40, 256, m.between(20, 256)}[m.IntN(4)]
		p := emptyStore(t, blocks, m.between(8, min(64, blocks-8)))
		first := p.Super.Log + 3
		owned, kept := map[impl.Run]string{}, map[impl.Run]string{}
		for range 150 {
			code := int64(impl.OK)
			switch m.IntN(8) {
			case 0, 1, 2, 3:
				var at int64
				n := m.between(1, 6)
				q, at, code := checkAllocate(t, "history", p, n)
				codes[code]++
				if code != impl.OK {
					break
				}
				checkApartFrom(t, owned, impl.Run{At: at, Count: n})
				data := strings.Repeat(m.drawBlock(), 6)[:n*64-m.Int64N(64)]
				if q, code = checkWriteRun(t, "history", q, at, data); code == impl.OK {
					p = q
					owned[impl.Run{At: at, Count: n}] = data
				}
			case 4, 5:
				if len(owned) == 0 {
					break
				}
				run := m.drawRun(owned)
				q, code := checkRelease(t, "history", p, run.At, run.Count)
				codes[code]++
				if code == impl.OK {
					p = q
					delete(owned, run)
					_, _, again := checkAllocate(t, "what was released", p, run.Count)
					codes[again]++
				}
			case 6:
				p, code = impl.Commit(p)
				kept = maps.Clone(owned)
			default:
				p, code = impl.Discard(p)
				owned = maps.Clone(kept)
			}
			check(t, "code", code, int64(impl.OK))
			taken := int64(0)
			for run, data := range owned {
				taken += run.Count
				got, _ := impl.ReadRun(p, run.At, int64(len(data)))
				check(t, shown("history", i, "bytes of a run"), got, data)
			}
			check(t, "FreeCount", impl.FreeCount(p), blocks-first-taken)
		}
	}
	if codes[impl.OK] < 500 || codes[impl.ErrFull] < 50 {
		t.Errorf("too few of a code: %v", codes)
	}
}

// drawRun returns one of some runs.
func (m typeMaker) drawRun(owned map[impl.Run]string) impl.Run {
	runs := slices.SortedFunc(maps.Keys(owned), func(a, b impl.Run) int { return int(a.At - b.At) })
	return runs[m.IntN(len(runs))]
}

func checkApartFrom(t *testing.T, owned map[impl.Run]string, run impl.Run) {
	t.Helper()
	for other := range owned {
		if run.At < other.At+other.Count && other.At < run.At+run.Count {
			t.Errorf("the runs %v and %v overlap", run, other)
		}
	}
}

// runResults returns what all functions of the chapter return.
func runResults(p impl.Pager, at, n int64, data string) []any {
	root, rootCode := impl.RootOf(p)
	rooted, rootedCode := impl.SetRoot(p, at)
	allocated, first, allocatedCode := impl.Allocate(p, n)
	released, releasedCode := impl.Release(p, at, n)
	read, readCode := impl.ReadRun(p, at, n)
	written, writtenCode := impl.WriteRun(p, at, data)
	return []any{impl.BlocksFor(n), root, rootCode, rooted, rootedCode, impl.IsAllocated(p, at), impl.FreeRuns(p), impl.FreeCount(p), allocated, first, allocatedCode, released, releasedCode, read, readCode, written, writtenCode}
}

func TestP1RunsReturnForAllArguments(t *testing.T) {
	numbers, texts := oddNumbers(), oddStrings()
	pagers := append(badPagers(), fullPager(), spacedStore(t, "x..xx.x"), spacedStore(t, "xxxxxx"))
	for i, at := range numbers {
		p, n, data := pagers[i*5%len(pagers)], numbers[i*7%len(numbers)], strings.Repeat(texts[i%len(texts)], i*37%500)
		for _, p := range append(pagers[len(pagers)-3:], p) {
			checkShown(t, "second call", shown(runResults(roomyPager(p), at, n, data)...), shown(runResults(p, at, n, data)...))
		}
	}
	p := spacedStore(t, "x..xx.x")
	results := runResults(p, 12, 1, strings.Repeat("a", 10000000))
	check(t, "a long run", results[len(results)-1], int64(impl.ErrRange))
}

func TestP1RunsLeavePagersAsTheyAre(t *testing.T) {
	m := newTypeMaker(101)
	for range 150 {
		p := roomyPager(m.drawSpaced())
		at, n := m.between(p.Super.Log+2, p.Super.Blocks), m.between(0, 5)
		data := m.drawBlock() + m.drawBlock()
		before := shown(widePager(p))
		results := runResults(p, at, n, data)
		checkNew(t, "results", []any{p}, results...)
		first := shown(results...)
		second := shown(runResults(p, at, n, data)...)
		checkShown(t, "the pager after the calls", shown(widePager(p)), before)
		checkShown(t, "second call", second, first)
	}
}
