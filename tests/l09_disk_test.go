package tests

import (
	"math"
	"slices"
	"strings"
	"testing"

	"loop.example/g00904/impl"
)

func TestP10Constants(t *testing.T) {
	check(t, "constants", []int64{impl.BlockSize, impl.MinBlocks, impl.MaxBlocks, impl.MaxPending, impl.MaxFuse}, []int64{64, 16, 256, 600, 100000})
}

func TestP10NewDisks(t *testing.T) {
	for _, blocks := range append(numbersFrom(-3, 300), oddNumbers()...) {
		d, code := impl.NewDisk(blocks)
		want, wantCode := impl.Disk{}, int64(impl.ErrRange)
		if isBetween(16, blocks, 256) {
			want, wantCode = impl.Disk{Blocks: slices.Repeat([]string{blockOf("\x00")}, int(blocks)), Fuse: -1}, impl.OK
		}
		checkDisk(t, "NewDisk of "+shown(blocks), d, code, want, wantCode)
	}
}

func TestP10ValidDisks(t *testing.T) {
	for _, fuse := range []int64{-1, 0, 1, 2, 99999, 100000} {
		for _, d := range []impl.Disk{numberedDisk(16), numberedDisk(17), numberedDisk(255), numberedDisk(256), numberedDisk(16, manyPuts(599)...), numberedDisk(16, manyPuts(600)...), numberedDisk(256, put(0, blockOf("a")), put(255, blockOf("b")))} {
			d.Fuse = fuse
			check(t, "ValidDisk", []bool{impl.ValidDisk(d), impl.ValidDisk(turnedOff(d))}, []bool{true, true})
		}
	}
	m := newTypeMaker(61)
	for range 200 {
		check(t, "ValidDisk of a drawn disk", impl.ValidDisk(m.drawDisk()), true)
	}
}

// checkInvalidDisk checks that each function finds an invalid disk before all else.
func checkInvalidDisk(t *testing.T, d impl.Disk) {
	t.Helper()
	what := shown(len(d.Blocks), len(d.Pending), d.Fuse, d.Off)
	check(t, "ValidDisk of "+what, impl.ValidDisk(d), false)
	checkShown(t, "ChangedBlocks of "+what, shown(impl.ChangedBlocks(d)), shown([]int64{}))
	after, code := impl.Barrier(d)
	checkDisk(t, "Barrier of "+what, after, code, impl.Disk{}, impl.ErrInvalid)
	for _, n := range []int64{-2, -1, 0, 1, 3, 15, 16, 256, 100000, 100001, math.MinInt64, math.MaxInt64} {
		data, code := impl.ReadBlock(d, n)
		check(t, "ReadBlock of "+what, []any{data, code}, []any{"", int64(impl.ErrInvalid)})
		after, code = impl.SetFuse(d, n)
		checkDisk(t, "SetFuse of "+what, after, code, impl.Disk{}, impl.ErrInvalid)
		for _, data := range []string{"", "short", blockOf("a")} {
			after, code = impl.WriteBlock(d, n, data)
			checkDisk(t, "WriteBlock of "+what, after, code, impl.Disk{}, impl.ErrInvalid)
		}
		for _, kept := range [][]bool{nil, {true}, make([]bool, len(d.Pending)), make([]bool, len(d.Pending)+1)} {
			after, code = impl.CutPower(d, kept, -1, n)
			checkDisk(t, "CutPower of "+what, after, code, impl.Disk{}, impl.ErrInvalid)
			after, code = impl.CutPower(d, kept, n, 0)
			checkDisk(t, "CutPower of "+what, after, code, impl.Disk{}, impl.ErrInvalid)
		}
	}
}

func TestP10DisksThatAreNotValid(t *testing.T) {
	for _, d := range badDisks() {
		checkInvalidDisk(t, d)
	}
}

func TestP10SameDisks(t *testing.T) {
	base := impl.Disk{Blocks: []string{"a", "", blockOf("b")}, Pending: []impl.Put{put(-1, "c"), put(7, "")}, Fuse: -9}
	check(t, "same", impl.SameDisk(base, roomyDisk(base)), true)
	for i, change := range []func(d *impl.Disk){
		func(d *impl.Disk) { d.Blocks[0] = "A" }, func(d *impl.Disk) { d.Blocks[1] = "\x00" }, func(d *impl.Disk) { d.Blocks = d.Blocks[:2] }, func(d *impl.Disk) { d.Blocks = append(d.Blocks, "") }, func(d *impl.Disk) { d.Blocks = nil }, func(d *impl.Disk) { slices.Reverse(d.Blocks) },
		func(d *impl.Disk) { d.Pending[0].Block = 1 }, func(d *impl.Disk) { d.Pending[1].Data = "d" }, func(d *impl.Disk) { d.Pending = d.Pending[:1] }, func(d *impl.Disk) { d.Pending = append(d.Pending, impl.Put{}) }, func(d *impl.Disk) { d.Pending = nil }, func(d *impl.Disk) { slices.Reverse(d.Pending) },
		func(d *impl.Disk) { d.Fuse = 9 }, func(d *impl.Disk) { d.Fuse = -1 }, func(d *impl.Disk) { d.Off = true },
	} {
		d := roomyDisk(base)
		change(&d)
		check(t, "change", []any{i, impl.SameDisk(base, d), impl.SameDisk(d, base), impl.SameDisk(d, d)}, []any{i, false, false, true})
	}
	check(t, "nil and empty", impl.SameDisk(impl.Disk{}, impl.Disk{Blocks: []string{}, Pending: []impl.Put{}}), true)
}

func TestP10Fuses(t *testing.T) {
	m := newTypeMaker(62)
	for i, fuse := range append(oddNumbers(), -2, -1, 0, 1, 99999, 100000, 100001) {
		d := m.drawDisk()
		d.Off = i%2 == 0
		after, code := impl.SetFuse(d, fuse)
		want, wantCode := impl.Disk{}, int64(impl.ErrRange)
		if isBetween(-1, fuse, 100000) {
			want, wantCode = impl.Disk{Blocks: d.Blocks, Pending: d.Pending, Fuse: fuse, Off: d.Off}, impl.OK
		}
		checkDisk(t, "SetFuse to "+shown(fuse), after, code, want, wantCode, d)
	}
}

// What is written is read back, and all other blocks are unchanged.
func TestP10WrittenBlocks(t *testing.T) {
	m := newTypeMaker(63)
	for range 60 {
		d := m.drawDisk()
		d.Off, d.Fuse = false, -1
		for k := range d.Blocks {
			data := m.drawBlock()
			after, code := impl.WriteBlock(d, int64(k), data)
			want, _ := writtenTo(d, int64(k), data)
			checkDisk(t, "WriteBlock", after, code, want, impl.OK, d)
			other := m.IntN(len(d.Blocks))
			for _, i := range []int{k, other, 0, len(d.Blocks) - 1} {
				got, code := impl.ReadBlock(after, int64(i))
				wanted := readFrom(d, int64(i))
				if i == k {
					wanted = data
				}
				check(t, "ReadBlock after WriteBlock", []any{got, code}, []any{wanted, int64(impl.OK)})
			}
			if m.IntN(4) == 0 {
				d = after
			}
		}
	}
}

func TestP10BlocksWrittenTwice(t *testing.T) {
	d := numberedDisk(16)
	for i, data := range []string{blockOf("a"), blockOf("b"), blockOf("a"), blockOf("\x00"), d.Blocks[3]} {
		d, _ = impl.WriteBlock(d, 3, data)
		d, _ = impl.WriteBlock(d, 4, blockOf("z"))
		got, code := impl.ReadBlock(d, 3)
		check(t, "ReadBlock", []any{got, code, len(d.Pending)}, []any{data, int64(impl.OK), 2*i + 2})
		checkShown(t, "ChangedBlocks", shown(impl.ChangedBlocks(d)), shown([]int64{3, 4}))
	}
}

func TestP10BlocksThatAreRead(t *testing.T) {
	m := newTypeMaker(64)
	for range 100 {
		d := m.drawDisk()
		for k := range d.Blocks {
			got, code := impl.ReadBlock(d, int64(k))
			check(t, "ReadBlock", []any{got, code}, []any{readFrom(d, int64(k)), int64(impl.OK)})
		}
		blocks := int64(len(d.Blocks))
		for _, k := range append(oddNumbers(), blocks, blocks+1, -blocks) {
			if !isBetween(0, k, blocks-1) {
				got, code := impl.ReadBlock(d, k)
				check(t, "ReadBlock of "+shown(k), []any{got, code}, []any{"", int64(impl.ErrRange)})
			}
		}
	}
}

// Every combination of the causes of an error.
func TestP10OrderOfErrors(t *testing.T) {
	codes := map[int64]int{}
	for bits := range 64 {
		d := numberedDisk(16, manyPuts(3)...)
		k, data := int64(5), blockOf("a")
		for i, cause := range []func(){
			func() { d.Blocks = d.Blocks[:15] }, func() { data = data[1:] }, func() { k = 16 }, func() { d.Off = true }, func() { d.Fuse = 0 }, func() { d.Pending = manyPuts(600) },
		} {
			if bits>>i&1 == 1 {
				cause()
			}
		}
		what := "errors " + shown(bits)
		want, wantCode := writtenTo(d, k, data)
		after, code := impl.WriteBlock(d, k, data)
		checkDisk(t, what+" of WriteBlock", after, code, want, wantCode, d)
		codes[code]++
		want, wantCode = settled(d)
		after, code = impl.Barrier(d)
		checkDisk(t, what+" of Barrier", after, code, want, wantCode, d)
	}
	check(t, "codes of WriteBlock", codes, map[int64]int{impl.OK: 1, impl.ErrFull: 1, impl.ErrPower: 6, impl.ErrRange: 8, impl.ErrInvalid: 48})
}

func TestP10DataThatIsNoBlock(t *testing.T) {
	for _, d := range []impl.Disk{numberedDisk(16), turnedOff(numberedDisk(40, manyPuts(600)...))} {
		for _, size := range []int{0, 1, 32, 63, 65, 127, 128, 64 * 16, 1000000} {
			for _, k := range []int64{0, 15, 16, 40, -1, math.MinInt64, math.MaxInt64} {
				after, code := impl.WriteBlock(d, k, strings.Repeat("a", size))
				checkDisk(t, "WriteBlock of "+shown(size), after, code, impl.Disk{}, impl.ErrInvalid)
			}
		}
	}
}

func TestP10NumbersOfNoBlock(t *testing.T) {
	for _, d := range []impl.Disk{numberedDisk(16), numberedDisk(256, manyPuts(5)...), turnedOff(numberedDisk(40, manyPuts(600)...))} {
		blocks := int64(len(d.Blocks))
		for _, k := range append(oddNumbers(), blocks, blocks+1, -blocks) {
			after, code := impl.WriteBlock(d, k, blockOf("a"))
			want, wantCode := writtenTo(d, k, blockOf("a"))
			checkDisk(t, "WriteBlock of the block "+shown(k), after, code, want, wantCode, d)
		}
	}
}

func TestP10PendingWritesAtTheirLimit(t *testing.T) {
	d := numberedDisk(16)
	for _, w := range manyPuts(600) {
		after, code := impl.WriteBlock(d, w.Block, w.Data)
		want, _ := writtenTo(d, w.Block, w.Data)
		checkDisk(t, "WriteBlock", after, code, want, impl.OK, d)
		d = after
	}
	after, code := impl.WriteBlock(d, 0, blockOf("a"))
	checkDisk(t, "one write too many", after, code, impl.Disk{}, impl.ErrFull, d)
	for _, fuse := range []int64{-1, 1, 2, 100000} {
		d.Fuse = fuse
		after, code = impl.WriteBlock(d, 15, blockOf("a"))
		checkDisk(t, "one write too many", after, code, impl.Disk{}, impl.ErrFull, d)
		after, code = impl.Barrier(d)
		want, _ := settled(d)
		checkDisk(t, "Barrier of many writes", after, code, want, impl.OK, d)
	}
	d.Fuse = -1
	d, _ = impl.Barrier(d)
	after, code = impl.WriteBlock(d, 0, blockOf("a"))
	want, _ := writtenTo(d, 0, blockOf("a"))
	checkDisk(t, "WriteBlock after Barrier", after, code, want, impl.OK, d)
}

func TestP10Barriers(t *testing.T) {
	m := newTypeMaker(65)
	codes := map[int64]int{}
	for range 400 {
		d := m.drawDisk()
		after, code := impl.Barrier(d)
		want, wantCode := settled(d)
		checkDisk(t, "Barrier", after, code, want, wantCode, d)
		codes[code]++
		if code == impl.ErrPower {
			continue
		}
		for k := range d.Blocks {
			before, _ := impl.ReadBlock(d, int64(k))
			now, _ := impl.ReadBlock(after, int64(k))
			check(t, "ReadBlock after Barrier", now, before)
		}
	}
	if codes[impl.OK] < 100 || codes[impl.ErrPower] < 50 {
		t.Errorf("too few of a code: %v", codes)
	}
}

// A fuse lets exactly as many operations succeed as it says.
func TestP10FusesThatBurn(t *testing.T) {
	for _, fuse := range []int64{-1, 0, 1, 2, 3, 10} {
		d, _ := impl.SetFuse(numberedDisk(16), fuse)
		for i := range int64(20) {
			var want impl.Disk
			var code, wantCode int64
			before := d
			if i%3 == 2 {
				want, wantCode = settled(d)
				d, code = impl.Barrier(d)
			} else {
				want, wantCode = writtenTo(d, i%16, blockOf("a"))
				d, code = impl.WriteBlock(d, i%16, blockOf("a"))
			}
			checkDisk(t, "operation "+shown(fuse, i), d, code, want, wantCode, before)
			check(t, "succeeds", []any{fuse, i, code == impl.OK}, []any{fuse, i, fuse == -1 || i < fuse})
			check(t, "is off", []any{fuse, i, d.Off}, []any{fuse, i, fuse != -1 && i >= fuse})
		}
	}
}

func TestP10TheLongestFuse(t *testing.T) {
	d, _ := impl.SetFuse(numberedDisk(16), 100000)
	for i := range int64(100000) {
		var code int64
		d, code = impl.Barrier(d)
		if code != impl.OK || d.Fuse != 99999-i || d.Off {
			t.Fatalf("operation %d: got %d and the fuse %d", i, code, d.Fuse)
		}
	}
	after, code := impl.Barrier(d)
	checkDisk(t, "one operation more", after, code, turnedOff(d), impl.ErrPower, d)
}

// Without power, blocks are read, and everything else waits for a power cut.
func TestP10DisksWithoutPower(t *testing.T) {
	for _, fuse := range []int64{-1, 0, 1, 7, 100000} {
		d := turnedOff(numberedDisk(16, put(3, blockOf("a")), put(3, blockOf("b")), put(4, blockOf("c"))))
		d.Fuse = fuse
		for range 3 {
			after, code := impl.WriteBlock(d, 3, blockOf("z"))
			checkDisk(t, "WriteBlock without power", after, code, d, impl.ErrPower, d)
			after, code = impl.Barrier(d)
			checkDisk(t, "Barrier without power", after, code, d, impl.ErrPower, d)
			for k, want := range map[int64]string{3: blockOf("b"), 4: blockOf("c"), 5: d.Blocks[5]} {
				got, code := impl.ReadBlock(d, k)
				check(t, "ReadBlock without power", []any{got, code}, []any{want, int64(impl.OK)})
			}
			checkShown(t, "ChangedBlocks without power", shown(impl.ChangedBlocks(d)), shown([]int64{3, 4}))
			d, code = impl.SetFuse(d, fuse)
			check(t, "off after SetFuse", []any{d.Off, code}, []any{true, int64(impl.OK)})
		}
		on, code := impl.CutPower(d, []bool{true, false, false}, -1, 0)
		want := numberedDisk(16)
		want.Blocks[3] = blockOf("a")
		checkDisk(t, "CutPower without power", on, code, want, impl.OK, d)
		_, code = impl.WriteBlock(on, 3, blockOf("z"))
		check(t, "WriteBlock after CutPower", code, int64(impl.OK))
	}
}

// checkCutPower checks that each block has its durable contents, that of one
// of its pending writes, or at most one of them a torn one, and which of them.
func checkCutPower(t *testing.T, d impl.Disk, kept []bool, torn, bytes int64) {
	t.Helper()
	what := "CutPower " + shown(kept, torn, bytes)
	after, code := impl.CutPower(d, kept, torn, bytes)
	want, wantCode := afterCut(d, kept, torn, bytes)
	checkDisk(t, what, after, code, want, wantCode, d, kept)
	if code != impl.OK {
		return
	}
	for k, b := range after.Blocks {
		possible := []string{d.Blocks[k]}
		for i, w := range d.Pending {
			if w.Block != int64(k) {
				continue
			}
			if int64(i) != torn {
				possible = append(possible, w.Data)
				continue
			}
			for _, old := range slices.Clone(possible) {
				possible = append(possible, w.Data[:bytes]+old[bytes:])
			}
		}
		if !slices.Contains(possible, b) {
			t.Errorf("%s: block %d is %q", what, k, b)
		}
	}
}

// Every subset of the writes, with each of them torn.
func TestP10EveryPowerCut(t *testing.T) {
	for _, blocks := range [][]int64{{}, {3}, {3, 4}, {3, 3}, {3, 3, 3}, {4, 3, 4}, {15, 0, 15, 15}} {
		d := numberedDisk(16)
		for i, k := range blocks {
			d, _ = impl.WriteBlock(d, k, paddedTo64("write ABCD"[:7+i]))
		}
		for bits := range 1 << len(blocks) {
			var kept []bool
			for i := range blocks {
				kept = append(kept, bits>>i&1 == 1)
			}
			for torn := range len(blocks) + 1 {
				for _, bytes := range []int64{0, 1, 7, 8, 31, 32, 63, 64} {
					checkCutPower(t, d, kept, int64(torn)-1, bytes)
				}
			}
		}
	}
}

func TestP10EveryLengthOfATornWrite(t *testing.T) {
	d := numberedDisk(16, put(3, blockOf("b")))
	d.Blocks[3] = blockOf("a")
	for _, kept := range []bool{false, true} {
		for bytes := range 65 {
			after, code := impl.CutPower(d, []bool{kept}, 0, int64(bytes))
			want := numberedDisk(16)
			want.Blocks[3] = strings.Repeat("b", bytes) + strings.Repeat("a", 64-bytes)
			checkDisk(t, "CutPower after "+shown(bytes), after, code, want, impl.OK, d)
		}
	}
	// The bytes do not matter where no write is torn.
	for bytes := range int64(65) {
		after, code := impl.CutPower(d, []bool{true}, -1, bytes)
		want := numberedDisk(16)
		want.Blocks[3] = blockOf("b")
		checkDisk(t, "CutPower without a torn write", after, code, want, impl.OK, d)
	}
}

func TestP10DrawnPowerCuts(t *testing.T) {
	m := newTypeMaker(66)
	for range 600 {
		d := m.drawDisk()
		kept, torn, bytes := m.drawCut(d)
		checkCutPower(t, d, kept, torn, bytes)
	}
	most := numberedDisk(16, manyPuts(600)...)
	for range 20 {
		kept, torn, bytes := m.drawCut(most)
		checkCutPower(t, most, kept, torn, bytes)
	}
	checkCutPower(t, most, make([]bool, 600), 599, 64)
}

func TestP10PowerCutsOutOfRange(t *testing.T) {
	far := []int64{-65, -2, 65, 128, 600, math.MinInt64, math.MinInt64 + 1, math.MaxInt64}
	for _, count := range []int{0, 1, 3, 600} {
		d := numberedDisk(16, manyPuts(count)...)
		d.Fuse = 0
		right := slices.Repeat([]bool{true}, count)
		checkCutPower(t, d, right, -1, 64)
		for _, kept := range [][]bool{append(slices.Clone(right), true), append(slices.Clone(right), false), make([]bool, 2*count+1), make([]bool, 1000)} {
			checkCutPower(t, d, kept, -1, 0)
			checkCutPower(t, d, kept, int64(count), 0)
		}
		if count > 0 {
			checkCutPower(t, d, nil, -1, 0)
			checkCutPower(t, d, right[1:], -1, 0)
			checkCutPower(t, d, right[1:], int64(count)-1, 0)
			checkCutPower(t, d, right, int64(count)-1, 64)
			checkCutPower(t, d, right, int64(count)-1, 65)
			checkCutPower(t, d, right, int64(count)-1, -1)
		}
		for _, torn := range append(far, int64(count), int64(count)+1) {
			checkCutPower(t, d, right, torn, 0)
		}
		for _, bytes := range append(far, -1) {
			checkCutPower(t, d, right, -1, bytes)
			checkCutPower(t, d, right, 0, bytes)
		}
	}
}

func TestP10ChangedBlocks(t *testing.T) {
	for _, c := range []struct{ written, want []int64 }{
		{nil, nil}, {[]int64{3}, []int64{3}}, {[]int64{3, 3}, []int64{3}}, {[]int64{5, 3, 5, 0, 255, 3, 4}, []int64{0, 3, 4, 5, 255}}, {[]int64{255, 254, 2, 1, 0}, []int64{0, 1, 2, 254, 255}}, {[]int64{1, 2, 1, 2}, []int64{1, 2}},
	} {
		d := numberedDisk(256)
		for _, k := range c.written {
			d, _ = impl.WriteBlock(d, k, blockOf("a"))
		}
		got := impl.ChangedBlocks(d)
		checkShown(t, "ChangedBlocks", shown(got), shown(c.want))
		checkNew(t, "ChangedBlocks", []any{d}, got)
		d, _ = impl.Barrier(d)
		checkShown(t, "ChangedBlocks after Barrier", shown(impl.ChangedBlocks(d)), shown([]int64{}))
	}
	m := newTypeMaker(67)
	for range 300 {
		d := m.drawDisk()
		var want []int64
		for k := range int64(len(d.Blocks)) {
			if slices.ContainsFunc(d.Pending, func(w impl.Put) bool { return w.Block == k }) {
				want = append(want, k)
			}
		}
		checkShown(t, "ChangedBlocks", shown(impl.ChangedBlocks(d)), shown(want))
	}
}

// Operations one after the other, each on the disk that the last one left.
func TestP10Histories(t *testing.T) {
	m := newTypeMaker(68)
	codes := map[int64]int{}
	for range 60 {
		d := m.drawDisk()
		for range 60 {
			var after, want impl.Disk
			var code, wantCode int64
			switch m.IntN(10) {
			case 0:
				kept, torn, bytes := m.drawCut(d)
				after, code = impl.CutPower(d, kept, torn, bytes)
				want, wantCode = afterCut(d, kept, torn, bytes)
			case 1, 2:
				after, code = impl.Barrier(d)
				want, wantCode = settled(d)
			case 3:
				fuse := m.between(-1, 9)
				after, code = impl.SetFuse(d, fuse)
				want, wantCode = impl.Disk{Blocks: d.Blocks, Pending: d.Pending, Fuse: fuse, Off: d.Off}, impl.OK
			default:
				k, data := m.Int64N(6), m.drawBlock()
				after, code = impl.WriteBlock(d, k, data)
				want, wantCode = writtenTo(d, k, data)
			}
			checkDisk(t, "operation", after, code, want, wantCode, d)
			codes[code]++
			d = after
		}
	}
	if codes[impl.OK] < 1000 || codes[impl.ErrPower] < 500 {
		t.Errorf("too few of a code: %v", codes)
	}
}

func diskResults(a, b impl.Disk, k, n int64, data string, kept []bool) []any {
	fresh, freshCode := impl.NewDisk(n)
	fused, fuseCode := impl.SetFuse(a, n)
	read, readCode := impl.ReadBlock(a, k)
	written, writeCode := impl.WriteBlock(a, k, data)
	settled, barrierCode := impl.Barrier(a)
	cut, cutCode := impl.CutPower(a, kept, k, n)
	return []any{impl.ValidDisk(a), impl.SameDisk(a, b), fresh, freshCode, fused, fuseCode, read, readCode, written, writeCode, settled, barrierCode, cut, cutCode, impl.ChangedBlocks(b)}
}

func TestP1DisksReturnForAllArguments(t *testing.T) {
	numbers, texts := oddNumbers(), oddStrings()
	disks := append(badDisks(), numberedDisk(16), turnedOff(numberedDisk(16, manyPuts(600)...)))
	for i, k := range numbers {
		a, b := disks[i*5%len(disks)], disks[i*7%len(disks)]
		n, data, kept := numbers[i*11%len(numbers)], texts[i*3%len(texts)], make([]bool, i%4)
		for _, d := range []impl.Disk{a, disks[len(disks)-1], disks[len(disks)-2]} {
			checkShown(t, "second call", shown(diskResults(roomyDisk(d), roomyDisk(b), k, n, data, kept)...), shown(diskResults(d, b, k, n, data, kept)...))
		}
	}
}

func TestP1DisksAreNotModified(t *testing.T) {
	m := newTypeMaker(69)
	for range 200 {
		a, b := roomyDisk(m.drawDisk()), roomyDisk(m.drawDisk())
		kept, torn, bytes := m.drawCut(a)
		kept = append(kept, true, false)[:len(kept)]
		k := max(torn, 0)
		before := shown(wideDisk(a), wideDisk(b), kept[:cap(kept)])
		results := diskResults(a, b, k, bytes, b.Blocks[0], kept)
		checkNew(t, "results", []any{a, b, kept}, results...)
		first := shown(results...)
		second := shown(diskResults(a, b, k, bytes, b.Blocks[0], kept)...)
		checkShown(t, "arguments after the calls", shown(wideDisk(a), wideDisk(b), kept[:cap(kept)]), before)
		checkShown(t, "second call", second, first)
	}
}
