package tests

import (
	"encoding/binary"
	"math"
	"slices"
	"strings"
	"testing"

	"loop.example/g00904/impl"
)

const maxSeq = 1000000000000

func superOf(blocks, log, seq, turn int64) impl.Super {
	return impl.Super{Blocks: blocks, Log: log, Seq: seq, Turn: turn}
}

// isSuper tells what impl.ValidSuper should tell.
func isSuper(s impl.Super) bool {
	return isBetween(16, s.Blocks, 256) && isBetween(8, s.Log, 64) && s.Log+4 <= s.Blocks && isBetween(0, s.Seq, maxSeq) && isBetween(0, s.Turn, maxSeq)
}

// blockOfSuper tells what impl.EncodeSuper should return for a valid superblock.
func blockOfSuper(s impl.Super) string {
	half := append([]byte("ARRS"), 1)
	half = binary.LittleEndian.AppendUint16(half, uint16(s.Blocks))
	half = binary.LittleEndian.AppendUint16(half, uint16(s.Log))
	half = binary.LittleEndian.AppendUint64(half, uint64(s.Seq))
	half = binary.LittleEndian.AppendUint64(half, uint64(s.Turn))
	half = append(half, make([]byte, 32-len(half))...)
	return string(half) + string(half)
}

// superIn tells what impl.DecodeSuper should return.
func superIn(block string) (impl.Super, bool) {
	if len(block) != 64 {
		return impl.Super{}, false
	}
	b := []byte(block)
	s := superOf(int64(binary.LittleEndian.Uint16(b[5:])), int64(binary.LittleEndian.Uint16(b[7:])), int64(binary.LittleEndian.Uint64(b[9:])), int64(binary.LittleEndian.Uint64(b[17:])))
	if !isSuper(s) || blockOfSuper(s) != block {
		return impl.Super{}, false
	}
	return s, true
}

// currentIn tells what impl.ChooseSuper should return for a valid disk.
func currentIn(d impl.Disk) (impl.Super, int64) {
	current, code := impl.Super{}, int64(impl.ErrCorrupt)
	for k := range int64(2) {
		s, ok := superIn(readFrom(d, k))
		if ok && s.Blocks == int64(len(d.Blocks)) && s.Turn%2 == k && (code != impl.OK || s.Turn > current.Turn) {
			current, code = s, impl.OK
		}
	}
	return current, code
}

// superWrittenTo tells what impl.WriteSuper should return.
func superWrittenTo(d impl.Disk, s impl.Super) (impl.Disk, int64) {
	if !isDisk(d) || !isSuper(s) || s.Blocks != int64(len(d.Blocks)) {
		return impl.Disk{}, impl.ErrInvalid
	}
	return writtenTo(d, s.Turn%2, blockOfSuper(s))
}

// diskWith returns a disk with these two blocks.
func diskWith(blocks int, even, odd string) impl.Disk {
	d := numberedDisk(blocks)
	d.Blocks[0], d.Blocks[1] = even, odd
	return d
}

// goodSupers are valid superblocks with their fields at their limits.
func goodSupers() []impl.Super {
	var list []impl.Super
	for _, size := range [][2]int64{{16, 8}, {16, 12}, {17, 13}, {40, 8}, {67, 63}, {68, 64}, {255, 8}, {256, 8}, {256, 64}} {
		for _, seq := range []int64{0, 1, 255, 256, 1 << 32, maxSeq - 1, maxSeq} {
			for _, turn := range []int64{0, 1, 2, 256, 65535, 1<<32 + 1, maxSeq - 1, maxSeq} {
				list = append(list, superOf(size[0], size[1], seq, turn))
			}
		}
	}
	return list
}

// badSupers are superblocks that are not valid.
func badSupers() []impl.Super {
	list := []impl.Super{{}, superOf(16, 7, 0, 0), superOf(16, 13, 0, 0), superOf(15, 8, 0, 0), superOf(15, 11, 0, 0), superOf(257, 8, 0, 0), superOf(256, 65, 0, 0), superOf(67, 64, 0, 0), superOf(68, 65, 0, 0), superOf(40, 37, 0, 0), superOf(40, 36, -1, 0), superOf(40, 36, 0, -1)}
	for _, n := range []int64{-1, -2, maxSeq + 1, maxSeq + 2, math.MinInt64, math.MinInt64 + 3, math.MinInt64 + 4, math.MaxInt64} {
		list = append(list, superOf(40, 8, n, 0), superOf(40, 8, 0, n), superOf(n, 8, 0, 0), superOf(40, n, 0, 0), superOf(n, n, n, n))
	}
	return list
}

func (m typeMaker) drawSuper(blocks int64) impl.Super {
	limits := []int64{0, 1, 2, 3, 255, 256, maxSeq - 1, maxSeq}
	number := func() int64 { return []int64{limits[m.IntN(8)], m.between(0, maxSeq), m.between(0, 9)}[m.IntN(3)] }
	return superOf(blocks, m.between(8, min(64, blocks-4)), number(), number())
}

func TestP11Constants(t *testing.T) {
	check(t, "constants", []int64{impl.FormatVersion, impl.MinLog, impl.MaxLog, impl.MaxSeq, impl.LogFirst}, []int64{1, 8, 64, maxSeq, 2})
}

func checkSuper(t *testing.T, s impl.Super) {
	t.Helper()
	what := shown(s)
	block := impl.EncodeSuper(s)
	back, ok := impl.DecodeSuper(block)
	got := []any{impl.ValidSuper(s), block, back, ok, impl.AreaBlock(s), impl.DataFirst(s)}
	if isSuper(s) {
		check(t, what, got, []any{true, blockOfSuper(s), s, true, s.Log + 2, s.Log + 3})
	} else {
		check(t, what, got, []any{false, "", impl.Super{}, false, int64(0), int64(0)})
	}
}

// Every number of blocks with every log.
func TestP11SizesOfSuperblocks(t *testing.T) {
	for _, blocks := range numbersFrom(10, 262) {
		for _, log := range numbersFrom(4, 70) {
			checkSuper(t, superOf(blocks, log, 3, 4))
		}
	}
}

func TestP11NumbersOfSuperblocks(t *testing.T) {
	numbers := append(oddNumbers(), maxSeq-1, maxSeq, maxSeq+1)
	for _, n := range numbers {
		checkSuper(t, superOf(40, 8, n, 0))
		checkSuper(t, superOf(40, 8, 0, n))
		checkSuper(t, superOf(256, 64, n, maxSeq))
		checkSuper(t, superOf(16, 12, maxSeq, n))
		checkSuper(t, superOf(n, 8, 0, 0))
		checkSuper(t, superOf(40, n, 0, 0))
		checkSuper(t, superOf(n, n, 0, 0))
	}
	for _, s := range goodSupers() {
		check(t, "is good", isSuper(s), true)
		checkSuper(t, s)
	}
	for _, s := range badSupers() {
		check(t, "is bad", isSuper(s), false)
		checkSuper(t, s)
	}
}

func TestP11WrittenForms(t *testing.T) {
	for _, c := range []struct {
		s    impl.Super
		half string
	}{
		{superOf(40, 8, 7, 1), "ARRS\x01\x28\x00\x08\x00\x07\x00\x00\x00\x00\x00\x00\x00\x01\x00\x00\x00\x00\x00\x00\x00\x00\x00\x00\x00\x00\x00\x00"}, {superOf(256, 64, 0, 258), "ARRS\x01\x00\x01\x40\x00\x00\x00\x00\x00\x00\x00\x00\x00\x02\x01\x00\x00\x00\x00\x00\x00\x00\x00\x00\x00\x00\x00\x00"},
		{superOf(16, 12, maxSeq, maxSeq-1), "ARRS\x01\x10\x00\x0c\x00\x00\x10\xa5\xd4\xe8\x00\x00\x00\xff\x0f\xa5\xd4\xe8\x00\x00\x00\x00\x00\x00\x00\x00\x00\x00"},
	} {
		s, ok := impl.DecodeSuper(c.half + c.half)
		check(t, shown(c.s), []any{impl.EncodeSuper(c.s), s, ok}, []any{c.half + c.half, c.s, true})
		for _, block := range []string{c.half, c.half + c.half[:31], c.half + c.half + "\x00", c.half + c.half + c.half + c.half, "\x00" + c.half + c.half, strings.Repeat("\x00", 32) + c.half, c.half + strings.Repeat("\x00", 32), c.half[1:] + "A" + c.half[1:] + "A"} {
			checkNoSuper(t, block)
		}
	}
}

func checkNoSuper(t *testing.T, block string) {
	t.Helper()
	s, ok := impl.DecodeSuper(block)
	if s != (impl.Super{}) || ok {
		t.Errorf("DecodeSuper of %q: got %v, %v", block, s, ok)
	}
}

// Every byte of a half, and the same byte of both halves, is changed.
func TestP11DamagedBlocks(t *testing.T) {
	decoded := 0
	for _, s := range []impl.Super{superOf(40, 8, 0, 0), superOf(68, 64, maxSeq, 3), superOf(256, 12, 65536, maxSeq-1)} {
		block := blockOfSuper(s)
		for at := range 64 {
			for c := range 256 {
				b := []byte(block)
				if b[at] == byte(c) {
					continue
				}
				b[at] = byte(c)
				checkNoSuper(t, string(b))
				b[(at+32)%64] = byte(c)
				got, ok := impl.DecodeSuper(string(b))
				want, wanted := superIn(string(b))
				check(t, "both halves changed", []any{got, ok}, []any{want, wanted})
				if ok {
					decoded++
				}
			}
		}
	}
	if decoded < 1000 {
		t.Errorf("only %d superblocks", decoded)
	}
}

func TestP11HalvesOfDifferentSuperblocks(t *testing.T) {
	m := newTypeMaker(71)
	for range 2000 {
		a, b := m.drawSuper(40), m.drawSuper(40)
		mixed := blockOfSuper(a)[:32] + blockOfSuper(b)[32:]
		if a != b {
			checkNoSuper(t, mixed)
		}
	}
	for _, s := range append(oddStrings(), blockOf("A"), blockOf("\x00"), blockOf("\xff"), strings.Repeat("ARRS", 16), strings.Repeat("ARRS\x01\x28\x00\x08", 8), strings.Repeat("a", 1000000)) {
		checkNoSuper(t, s)
	}
	// Two equal halves are not enough.
	for range 2000 {
		half := m.drawBlock()[:32]
		checkNoSuper(t, half+half)
		half = "ARRS\x01\x28\x00\x08\x00" + half[9:]
		checkNoSuper(t, half+half)
	}
	// What is too great for Seq or Turn is not taken for 0.
	for at := range 16 {
		for _, c := range []byte{1, 0x80, 0xff} {
			b := []byte(blockOfSuper(superOf(40, 8, 0, 0)))
			b[9+at], b[41+at] = c, c
			want, wanted := superIn(string(b))
			got, ok := impl.DecodeSuper(string(b))
			check(t, "DecodeSuper", []any{got, ok}, []any{want, wanted})
		}
	}
}

// slotContents are blocks for a slot, by name.
func slotContents() map[string]string {
	of := func(seq, turn int64) string { return blockOfSuper(superOf(40, 8, seq, turn)) }
	return map[string]string{
		"zero": blockOf("\x00"), "text": blockOf("A"), "0": of(9, 0), "1": of(8, 1), "2": of(7, 2), "3": of(6, 3), "last": of(5, maxSeq), "last but one": of(4, maxSeq-1), "first half": of(3, 4)[:32] + strings.Repeat("\x00", 32), "second half": strings.Repeat("\x00", 32) + of(3, 5)[32:],
		"torn": of(3, 4)[:40] + of(3, 2)[40:], "another disk": blockOfSuper(superOf(41, 8, 3, 10)), "another odd disk": blockOfSuper(superOf(39, 8, 3, 11)), "another log": blockOfSuper(superOf(40, 36, 3, 12)), "another version": strings.ReplaceAll(of(3, 13), "ARRS\x01", "ARRS\x02"),
	}
}

func checkChosen(t *testing.T, what string, d impl.Disk) int64 {
	t.Helper()
	s, code := impl.ChooseSuper(d)
	want, wantCode := currentIn(d)
	check(t, "ChooseSuper of "+what, []any{s, code}, []any{want, wantCode})
	return code
}

// Every two contents of the two slots, durable and pending.
func TestP11CurrentSuperblocks(t *testing.T) {
	codes := map[int64]int{}
	for even, first := range slotContents() {
		for odd, second := range slotContents() {
			d := diskWith(40, first, second)
			codes[checkChosen(t, even+" and "+odd, d)]++
			d.Blocks[2], d.Blocks[3] = blockOfSuper(superOf(40, 8, 3, 100)), blockOfSuper(superOf(40, 8, 3, 101))
			d.Off, d.Fuse = true, 0
			checkChosen(t, even+" and "+odd+" without power", d)
			for block, newer := range slotContents() {
				for k := range int64(2) {
					d.Pending = []impl.Put{put(k, blockOf("x")), put(2, blockOf("y")), put(k, newer)}
					checkChosen(t, even+" and "+odd+" under "+block, d)
				}
			}
		}
	}
	if codes[impl.OK] < 50 || codes[impl.ErrCorrupt] < 50 {
		t.Errorf("too few of a code: %v", codes)
	}
}

func TestP11WrittenChoices(t *testing.T) {
	for _, c := range []struct {
		even, odd string
		want      impl.Super
		code      int64
	}{
		{"0", "1", superOf(40, 8, 8, 1), impl.OK}, {"2", "1", superOf(40, 8, 7, 2), impl.OK}, {"2", "3", superOf(40, 8, 6, 3), impl.OK}, {"0", "3", superOf(40, 8, 6, 3), impl.OK}, {"last", "last but one", superOf(40, 8, 5, maxSeq), impl.OK}, {"0", "last but one", superOf(40, 8, 4, maxSeq-1), impl.OK}, {"last", "1", superOf(40, 8, 5, maxSeq), impl.OK},
		{"0", "zero", superOf(40, 8, 9, 0), impl.OK}, {"zero", "1", superOf(40, 8, 8, 1), impl.OK}, {"0", "text", superOf(40, 8, 9, 0), impl.OK}, {"text", "1", superOf(40, 8, 8, 1), impl.OK}, {"first half", "1", superOf(40, 8, 8, 1), impl.OK}, {"torn", "1", superOf(40, 8, 8, 1), impl.OK}, {"0", "second half", superOf(40, 8, 9, 0), impl.OK},
		{"zero", "zero", impl.Super{}, impl.ErrCorrupt}, {"torn", "second half", impl.Super{}, impl.ErrCorrupt}, {"1", "0", impl.Super{}, impl.ErrCorrupt}, {"3", "2", impl.Super{}, impl.ErrCorrupt}, {"1", "zero", impl.Super{}, impl.ErrCorrupt}, {"zero", "0", impl.Super{}, impl.ErrCorrupt}, {"0", "2", superOf(40, 8, 9, 0), impl.OK}, {"3", "1", superOf(40, 8, 8, 1), impl.OK},
		{"another disk", "1", superOf(40, 8, 8, 1), impl.OK}, {"0", "another odd disk", superOf(40, 8, 9, 0), impl.OK}, {"another disk", "another odd disk", impl.Super{}, impl.ErrCorrupt}, {"another log", "1", superOf(40, 36, 3, 12), impl.OK}, {"0", "another version", superOf(40, 8, 9, 0), impl.OK},
	} {
		s, code := impl.ChooseSuper(diskWith(40, slotContents()[c.even], slotContents()[c.odd]))
		check(t, "ChooseSuper of "+c.even+" and "+c.odd, []any{s, code}, []any{c.want, c.code})
	}
}

func TestP11DisksThatAreNotValid(t *testing.T) {
	for _, d := range badDisks() {
		s, code := impl.ChooseSuper(d)
		check(t, "ChooseSuper", []any{s, code}, []any{impl.Super{}, int64(impl.ErrInvalid)})
		for _, s := range append(badSupers(), superOf(16, 8, 0, 0), superOf(40, 8, 0, 1), superOf(256, 64, 0, 1), superOf(int64(len(d.Blocks)), 8, 0, 0)) {
			after, code := impl.WriteSuper(d, s)
			checkDisk(t, "WriteSuper", after, code, impl.Disk{}, impl.ErrInvalid)
		}
	}
}

// A superblock is written to the slot of its Turn, and nothing else changes.
func TestP11SuperblocksThatAreWritten(t *testing.T) {
	m := newTypeMaker(72)
	codes := map[int64]int{}
	for range 400 {
		d := m.drawDisk()
		s := m.drawSuper(int64(len(d.Blocks)))
		after, code := impl.WriteSuper(d, s)
		want, wantCode := superWrittenTo(d, s)
		checkDisk(t, "WriteSuper", after, code, want, wantCode, d)
		codes[code]++
		if code != impl.OK {
			continue
		}
		got, code := impl.ReadBlock(after, s.Turn%2)
		check(t, "ReadBlock after WriteSuper", []any{got, code}, []any{blockOfSuper(s), int64(impl.OK)})
		chosen, code := impl.ChooseSuper(after)
		check(t, "ChooseSuper after WriteSuper", []any{chosen, code}, []any{s, int64(impl.OK)})
	}
	if codes[impl.OK] < 100 || codes[impl.ErrPower] < 50 {
		t.Errorf("too few of a code: %v", codes)
	}
	for _, s := range goodSupers() {
		d := numberedDisk(int(s.Blocks))
		after, code := impl.WriteSuper(d, s)
		want, _ := superWrittenTo(d, s)
		checkDisk(t, "WriteSuper of "+shown(s), after, code, want, impl.OK, d)
	}
}

// Every combination of the causes of an error.
func TestP11OrderOfErrors(t *testing.T) {
	codes := map[int64]int{}
	for bits := range 128 {
		d, s := numberedDisk(40, manyPuts(3)...), superOf(40, 8, 7, 1)
		for i, cause := range []func(){
			func() { d.Fuse = 0 }, func() { d.Fuse = -2 }, func() { s.Log = 7 }, func() { s.Blocks++ }, func() { d.Off = true }, func() { d.Pending = manyPuts(600) }, func() { s.Turn = 2 },
		} {
			if bits>>i&1 == 1 {
				cause()
			}
		}
		after, code := impl.WriteSuper(d, s)
		want, wantCode := superWrittenTo(d, s)
		checkDisk(t, "errors "+shown(bits), after, code, want, wantCode, d)
		codes[code]++
	}
	check(t, "codes of WriteSuper", codes, map[int64]int{impl.OK: 2, impl.ErrFull: 2, impl.ErrPower: 12, impl.ErrInvalid: 112})
	for _, s := range append(badSupers(), superOf(39, 8, 0, 0), superOf(41, 8, 0, 0), superOf(256, 8, 0, 0)) {
		for _, d := range []impl.Disk{numberedDisk(40), turnedOff(numberedDisk(40)), numberedDisk(40, manyPuts(600)...)} {
			after, code := impl.WriteSuper(d, s)
			checkDisk(t, "WriteSuper of "+shown(s), after, code, impl.Disk{}, impl.ErrInvalid, d)
		}
	}
}

// checkTornSuper writes a superblock over a slot while the other one contains
// the current one, and cuts the power with all that may be left of the write.
func checkTornSuper(t *testing.T, old string, current, newer impl.Super) (none int) {
	t.Helper()
	d := numberedDisk(int(newer.Blocks))
	k := newer.Turn % 2
	d.Blocks[k], d.Blocks[1-k] = old, blockOfSuper(current)
	oldSuper, hadOld := superIn(old)
	written, code := impl.WriteSuper(d, newer)
	check(t, "WriteSuper", code, int64(impl.OK))
	for torn := int64(-1); torn <= 0; torn++ {
		for bytes := range int64(65) {
			for _, kept := range []bool{false, true} {
				after, code := impl.CutPower(written, []bool{kept}, torn, bytes)
				check(t, "CutPower", code, int64(impl.OK))
				s, ok := impl.DecodeSuper(after.Blocks[k])
				if ok && s != newer && !(hadOld && s == oldSuper) {
					t.Fatalf("%v over %v, torn after %d: is %v", newer, oldSuper, bytes, s)
				}
				isNew := ok && s == newer
				if want := torn == -1 && kept || torn == 0 && bytes == 64; want && !isNew {
					t.Fatalf("%v over %v, torn after %d: is not written", newer, oldSuper, bytes)
				}
				chosen, code := impl.ChooseSuper(after)
				want := current
				if isNew {
					want = newer
				}
				check(t, "ChooseSuper after CutPower", []any{chosen, code}, []any{want, int64(impl.OK)})
				if !ok {
					none++
				}
			}
		}
	}
	return none
}

func TestP11PowerCuts(t *testing.T) {
	m := newTypeMaker(73)
	none := 0
	for i := range 60 {
		blocks := []int64{16, 40, 256}[i%3]
		newer := m.drawSuper(blocks)
		newer.Turn = max(newer.Turn, 2)
		current, old := newer, newer
		current.Turn--
		old.Turn -= 2
		switch i % 4 {
		case 0:
			current, old = m.drawSuper(blocks), m.drawSuper(blocks)
			current.Turn, old.Turn = newer.Turn-1, newer.Turn-2
		case 1:
			current.Seq, old.Seq = newer.Seq/2, newer.Seq/3
		}
		none += checkTornSuper(t, blockOfSuper(old), current, newer)
		none += checkTornSuper(t, blockOf("\x00"), current, newer)
	}
	// A write that is torn after the last byte that differs is complete.
	none += checkTornSuper(t, blockOf("\x00"), superOf(40, 8, 0, 0), superOf(40, 8, 7, 1))
	none += checkTornSuper(t, blockOfSuper(superOf(40, 8, 7, 1)), superOf(40, 8, 7, 2), superOf(40, 8, 7, 3))
	if none < 1000 {
		t.Errorf("only %d damaged superblocks", none)
	}
}

func TestP11TheLengthsThatMatter(t *testing.T) {
	d, _ := impl.FormatDisk(40, 8)
	first, next := superOf(40, 8, 0, 0), superOf(40, 8, 7, 1)
	d, _ = impl.WriteSuper(d, next)
	// The last byte of the second half that is not zero is that of Turn.
	for bytes := range int64(65) {
		after, _ := impl.CutPower(d, []bool{false}, 0, bytes)
		s, code := impl.ChooseSuper(after)
		want := first
		if bytes > 32+17 {
			want = next
		}
		check(t, "torn after "+shown(bytes), []any{s, code}, []any{want, int64(impl.OK)})
	}
}

// Superblocks one after the other, with power cuts in between.
func TestP11Histories(t *testing.T) {
	m := newTypeMaker(74)
	olds, news := 0, 0
	for range 20 {
		d, _ := impl.FormatDisk(40, 8)
		current := superOf(40, 8, 0, 0)
		for range 60 {
			next := superOf(40, 8, current.Seq+m.Int64N(3), current.Turn+1)
			d, _ = impl.WriteSuper(d, next)
			if m.IntN(2) == 0 {
				d, _ = impl.Barrier(d)
				current = next
			}
			kept, torn, bytes := m.drawCut(d)
			d, _ = impl.CutPower(d, kept, torn, bytes)
			s, code := impl.ChooseSuper(d)
			switch {
			case code == impl.OK && s == current:
				olds++
			case code == impl.OK && s == next:
				current = next
				news++
			default:
				t.Fatalf("got %v, %d, want %v or %v", s, code, current, next)
			}
		}
	}
	if olds < 200 || news < 100 {
		t.Errorf("only %d and %d superblocks", olds, news)
	}
}

// Every number of blocks with every log.
func TestP11EmptyStores(t *testing.T) {
	for _, blocks := range numbersFrom(10, 262) {
		for _, log := range numbersFrom(4, 70) {
			if blocks > 20 && blocks < 60 && log < 60 && log%7 != 0 {
				continue
			}
			checkEmptyStore(t, blocks, log)
		}
	}
	for _, n := range oddNumbers() {
		checkEmptyStore(t, n, 8)
		checkEmptyStore(t, 40, n)
		checkEmptyStore(t, n, n)
	}
}

func checkEmptyStore(t *testing.T, blocks, log int64) {
	t.Helper()
	d, code := impl.FormatDisk(blocks, log)
	s := superOf(blocks, log, 0, 0)
	if !isSuper(s) {
		checkDisk(t, "FormatDisk of "+shown(blocks, log), d, code, impl.Disk{}, impl.ErrRange)
		return
	}
	want := impl.Disk{Blocks: slices.Repeat([]string{blockOf("\x00")}, int(blocks)), Fuse: -1}
	want.Blocks[0] = blockOfSuper(s)
	checkDisk(t, "FormatDisk of "+shown(blocks, log), d, code, want, impl.OK)
	chosen, code := impl.ChooseSuper(d)
	check(t, "ChooseSuper", []any{chosen, code}, []any{s, int64(impl.OK)})
	d, _ = impl.CutPower(d, nil, -1, 0)
	checkShown(t, "FormatDisk after CutPower", shown(d), shown(want))
}

func superResults(d impl.Disk, s impl.Super, text string) []any {
	decoded, isDecoded := impl.DecodeSuper(text)
	chosen, chooseCode := impl.ChooseSuper(d)
	written, writeCode := impl.WriteSuper(d, s)
	empty, formatCode := impl.FormatDisk(s.Blocks, s.Log)
	return []any{impl.ValidSuper(s), impl.EncodeSuper(s), decoded, isDecoded, chosen, chooseCode, written, writeCode, impl.AreaBlock(s), impl.DataFirst(s), empty, formatCode}
}

func TestP1SuperblocksReturnForAllArguments(t *testing.T) {
	numbers, texts, disks := oddNumbers(), oddStrings(), append(badDisks(), numberedDisk(16), numberedDisk(40))
	for i, n := range numbers {
		s := superOf(n, numbers[i*3%len(numbers)], numbers[i*5%len(numbers)], numbers[i*7%len(numbers)])
		for _, d := range []impl.Disk{disks[i%len(disks)], numberedDisk(40)} {
			checkShown(t, "second call", shown(superResults(roomyDisk(d), s, texts[i%len(texts)])...), shown(superResults(d, s, texts[i%len(texts)])...))
		}
	}
}

func TestP1SuperblocksLeaveDisksAsTheyAre(t *testing.T) {
	m := newTypeMaker(75)
	for range 200 {
		d := roomyDisk(m.drawDisk())
		s := m.drawSuper(int64(len(d.Blocks)))
		before := shown(wideDisk(d))
		results := superResults(d, s, blockOfSuper(s))
		checkNew(t, "results", []any{d}, results...)
		first := shown(results...)
		second := shown(superResults(d, s, blockOfSuper(s))...)
		checkShown(t, "arguments after the calls", shown(wideDisk(d)), before)
		checkShown(t, "second call", second, first)
	}
}
