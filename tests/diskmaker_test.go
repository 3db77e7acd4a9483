package tests

import (
	"math"
	"slices"
	"strconv"
	"strings"
	"testing"

	"loop.example/g00904/impl"
)

// blockOf returns a block that consists of one byte.
func blockOf(c string) string {
	return strings.Repeat(c, 64)
}

func put(block int64, data string) impl.Put {
	return impl.Put{Block: block, Data: data}
}

// numberedDisk returns a disk whose blocks are all different.
func numberedDisk(blocks int, pending ...impl.Put) impl.Disk {
	d := impl.Disk{Pending: pending, Fuse: -1}
	for k := range blocks {
		d.Blocks = append(d.Blocks, paddedTo64("block "+strconv.Itoa(k)))
	}
	return d
}

func paddedTo64(s string) string {
	return s + strings.Repeat(".", 64-len(s))
}

// manyPuts returns writes to the blocks from 0 to 15, over and over.
func manyPuts(count int) []impl.Put {
	var list []impl.Put
	for i := range count {
		list = append(list, put(int64(i%16), paddedTo64("write "+strconv.Itoa(i))))
	}
	return list
}

// isDisk tells what impl.ValidDisk should tell.
func isDisk(d impl.Disk) bool {
	isBlock := func(s string) bool { return len(s) == 64 }
	ok := isBetween(16, int64(len(d.Blocks)), 256) && len(d.Pending) <= 600 && isBetween(-1, d.Fuse, 100000)
	for _, b := range d.Blocks {
		ok = ok && isBlock(b)
	}
	for _, w := range d.Pending {
		ok = ok && isBetween(0, w.Block, int64(len(d.Blocks))-1) && isBlock(w.Data)
	}
	return ok
}

// hasPower reports whether an operation does not fail for lack of power.
func hasPower(d impl.Disk) bool {
	return !d.Off && d.Fuse != 0
}

// turnedOff returns the disk that is left by an operation that lacks power.
func turnedOff(d impl.Disk) impl.Disk {
	d.Off = true
	return d
}

// burnt returns the fuse after an operation.
func burnt(fuse int64) int64 {
	if fuse > 0 {
		return fuse - 1
	}
	return fuse
}

// writtenTo tells what impl.WriteBlock should return.
func writtenTo(d impl.Disk, k int64, data string) (impl.Disk, int64) {
	switch {
	case !isDisk(d) || len(data) != 64:
		return impl.Disk{}, impl.ErrInvalid
	case !isBetween(0, k, int64(len(d.Blocks))-1):
		return impl.Disk{}, impl.ErrRange
	case !hasPower(d):
		return turnedOff(d), impl.ErrPower
	case len(d.Pending) == 600:
		return impl.Disk{}, impl.ErrFull
	}
	return impl.Disk{Blocks: d.Blocks, Pending: slices.Concat(d.Pending, []impl.Put{put(k, data)}), Fuse: burnt(d.Fuse)}, impl.OK
}

// settled tells what impl.Barrier should return.
func settled(d impl.Disk) (impl.Disk, int64) {
	switch {
	case !isDisk(d):
		return impl.Disk{}, impl.ErrInvalid
	case !hasPower(d):
		return turnedOff(d), impl.ErrPower
	}
	after := impl.Disk{Fuse: burnt(d.Fuse)}
	for k := range d.Blocks {
		after.Blocks = append(after.Blocks, readFrom(d, int64(k)))
	}
	return after, impl.OK
}

// readFrom returns what is read from a block.
func readFrom(d impl.Disk, k int64) string {
	data := d.Blocks[k]
	for _, w := range d.Pending {
		if w.Block == k {
			data = w.Data
		}
	}
	return data
}

// afterCut tells what impl.CutPower should return, byte by byte: each byte is
// that of the last write that made it durable.
func afterCut(d impl.Disk, kept []bool, torn, bytes int64) (impl.Disk, int64) {
	switch {
	case !isDisk(d):
		return impl.Disk{}, impl.ErrInvalid
	case len(kept) != len(d.Pending) || !isBetween(-1, torn, int64(len(d.Pending))-1) || !isBetween(0, bytes, 64):
		return impl.Disk{}, impl.ErrRange
	}
	after := impl.Disk{Fuse: -1}
	for k, durable := range d.Blocks {
		data := []byte(durable)
		for at := range data {
			for i, w := range d.Pending {
				reached := kept[i]
				if int64(i) == torn {
					reached = int64(at) < bytes
				}
				if reached && w.Block == int64(k) {
					data[at] = w.Data[at]
				}
			}
		}
		after.Blocks = append(after.Blocks, string(data))
	}
	return after, impl.OK
}

// badDisks are disks that are not valid.
func badDisks() []impl.Disk {
	list := []impl.Disk{{}, {Fuse: -1}, {Fuse: -1, Off: true}, {Pending: manyPuts(1), Fuse: -1}, numberedDisk(15), numberedDisk(257), numberedDisk(1), numberedDisk(1000), numberedDisk(16, manyPuts(601)...), numberedDisk(256, manyPuts(601)...), numberedDisk(16, manyPuts(5000)...)}
	for _, size := range []int{0, 1, 63, 65, 128, 1000000} {
		for _, k := range []int{0, 1, 9, 15} {
			bad := numberedDisk(16, manyPuts(20)...)
			bad.Blocks[k] = strings.Repeat("a", size)
			list = append(list, bad)
			bad = numberedDisk(16, manyPuts(16)...)
			bad.Pending[k].Data = strings.Repeat("a", size)
			list = append(list, bad)
		}
	}
	for _, blocks := range []int{16, 40, 256} {
		for _, k := range []int64{-1, int64(blocks), int64(blocks) + 1, -64, 256 * 256, math.MinInt64, math.MaxInt64} {
			for i := range 3 {
				bad := numberedDisk(blocks, manyPuts(3)...)
				bad.Pending[i].Block = k
				list = append(list, bad)
			}
		}
	}
	for _, fuse := range []int64{-2, -3, 100001, math.MinInt64, math.MaxInt64} {
		bad := numberedDisk(16, manyPuts(2)...)
		bad.Fuse = fuse
		list = append(list, bad, turnedOff(bad))
	}
	return append(list, turnedOff(numberedDisk(15)))
}

// drawDisk returns a valid disk.
func (m typeMaker) drawDisk() impl.Disk {
	blocks := []int64{16, 17, 40, 255, 256, m.between(16, 256)}[m.IntN(6)]
	d := impl.Disk{Fuse: []int64{-1, -1, -1, 0, 1, 2, 100000, m.between(0, 100000)}[m.IntN(8)], Off: m.IntN(6) == 0}
	for range blocks {
		d.Blocks = append(d.Blocks, m.drawBlock())
	}
	// Few different blocks, so that some of them are written more than once.
	few := m.between(1, blocks)
	for range m.IntN(12) {
		d.Pending = append(d.Pending, put(m.Int64N(few), m.drawBlock()))
	}
	return d
}

func (m typeMaker) drawBlock() string {
	b := make([]byte, 64)
	for i := range b {
		b[i] = byte(m.IntN(256))
	}
	return string(b)
}

// drawCut returns arguments of impl.CutPower for a disk.
func (m typeMaker) drawCut(d impl.Disk) (kept []bool, torn, bytes int64) {
	for range d.Pending {
		kept = append(kept, m.IntN(2) == 0)
	}
	return kept, m.between(-1, int64(len(d.Pending))-1), m.between(0, 64)
}

func roomyDisk(d impl.Disk) impl.Disk {
	d.Blocks = append(slices.Clone(d.Blocks), "spare", blockOf("s"))[:len(d.Blocks)]
	d.Pending = append(slices.Clone(d.Pending), put(3, blockOf("s")), put(-7, "spare"))[:len(d.Pending)]
	return d
}

// wideDisk returns a copy of a disk with all that its slices have room for.
func wideDisk(d impl.Disk) impl.Disk {
	d.Blocks = slices.Clone(d.Blocks[:cap(d.Blocks)])
	d.Pending = slices.Clone(d.Pending[:cap(d.Pending)])
	return d
}

// checkDisk checks a disk and a code that a function returns, and that the disk
// is valid, as every disk is that is returned beside OK or ErrPower.
func checkDisk(t *testing.T, what string, got impl.Disk, code int64, want impl.Disk, wantCode int64, arguments ...any) {
	t.Helper()
	if code != wantCode {
		t.Errorf("%s: got the code %d, want %d", what, code, wantCode)
		return
	}
	checkShown(t, what, shown(got), shown(want))
	check(t, what+": is valid", impl.ValidDisk(got), code == impl.OK || code == impl.ErrPower)
	checkNew(t, what, arguments, got)
}
