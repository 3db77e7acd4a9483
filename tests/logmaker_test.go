package tests

import (
	"encoding/binary"
	"hash/crc32"
	"math"
	"slices"
	"strconv"
	"strings"
	"testing"

	"loop.example/g00904/impl"
)

func pageAt(block int64, data string) impl.Page {
	return impl.Page{Block: block, Data: data}
}

// pagesAt returns pages with these numbers, whose contents are all different.
func pagesAt(name string, blocks ...int64) []impl.Page {
	var list []impl.Page
	for _, k := range blocks {
		list = append(list, pageAt(k, paddedTo64(name+" "+strconv.FormatInt(k, 10))))
	}
	return list
}

func recordOf(seq int64, pages ...impl.Page) impl.Record {
	return impl.Record{Seq: seq, Pages: pages}
}

// isPageList tells what impl.ValidPages should tell.
func isPageList(list []impl.Page) bool {
	if len(list) > 256 {
		return false
	}
	for i, page := range list {
		if !isBetween(0, page.Block, 255) || len(page.Data) != 64 || i > 0 && page.Block <= list[i-1].Block {
			return false
		}
	}
	return true
}

// isRecord tells what impl.ValidRecord should tell.
func isRecord(r impl.Record) bool {
	return isBetween(1, r.Seq, maxSeq) && isBetween(1, int64(len(r.Pages)), 60) && isPageList(r.Pages)
}

// mergedPages tells what impl.MergePages should return.
func mergedPages(a, b []impl.Page) []impl.Page {
	if !isPageList(a) || !isPageList(b) {
		return nil
	}
	var contents [256]string
	for _, page := range slices.Concat(a, b) {
		contents[page.Block] = page.Data
	}
	var list []impl.Page
	for k, data := range contents {
		if data != "" {
			list = append(list, pageAt(int64(k), data))
		}
	}
	return list
}

// sizeOfRecord tells what impl.RecordBlocks should return.
func sizeOfRecord(pages int64) int64 {
	switch {
	case isBetween(1, pages, 32):
		return pages + 2
	case isBetween(33, pages, 60):
		return pages + 3
	}
	return 0
}

// tableBlocksOf returns the table of a record, whose numbers need not be valid.
func tableBlocksOf(pages []impl.Page) []string {
	var table []byte
	for _, page := range pages {
		table = binary.LittleEndian.AppendUint16(table, uint16(page.Block))
	}
	for len(table)%64 != 0 {
		table = append(table, 0)
	}
	return blocksIn(string(table))
}

func blocksIn(bytes string) []string {
	var list []string
	for ; bytes != ""; bytes = bytes[64:] {
		list = append(list, bytes[:64])
	}
	return list
}

// headBlockOf returns the head of a record with these blocks behind it.
func headBlockOf(seq, pages int64, body []string) string {
	head := []byte("LOGR")
	head = binary.LittleEndian.AppendUint64(head, uint64(seq))
	head = binary.LittleEndian.AppendUint16(head, uint16(pages))
	head = binary.LittleEndian.AppendUint32(head, crc32.ChecksumIEEE([]byte(strings.Join(body, ""))))
	return string(head) + strings.Repeat("\x00", 63-len(head)) + "Z"
}

// blocksOfRecord returns the blocks that a record has even if it is not valid.
func blocksOfRecord(r impl.Record) []string {
	body := tableBlocksOf(r.Pages)
	for _, page := range r.Pages {
		body = append(body, page.Data)
	}
	return append([]string{headBlockOf(r.Seq, int64(len(r.Pages)), body)}, body...)
}

// recordFrom tells what impl.DecodeRecord should return.
func recordFrom(blocks []string) (impl.Record, int64) {
	if len(blocks) == 0 || len(blocks[0]) != 64 {
		return impl.Record{}, impl.ErrCorrupt
	}
	head := []byte(blocks[0])
	seq, pages, sum := int64(binary.LittleEndian.Uint64(head[4:])), int64(binary.LittleEndian.Uint16(head[12:])), binary.LittleEndian.Uint32(head[14:])
	isHead := string(head[:4]) == "LOGR" && string(head[18:63]) == strings.Repeat("\x00", 45) && head[63] == 90
	if !isHead || !isBetween(1, seq, maxSeq) || !isBetween(1, pages, 60) {
		return impl.Record{}, impl.ErrCorrupt
	}
	size := sizeOfRecord(pages)
	if int64(len(blocks)) < size || slices.ContainsFunc(blocks[1:size], func(b string) bool { return len(b) != 64 }) {
		return impl.Record{}, impl.ErrCorrupt
	}
	if crc32.ChecksumIEEE([]byte(strings.Join(blocks[1:size], ""))) != sum {
		return impl.Record{}, impl.ErrChecksum
	}
	table := strings.Join(blocks[1:size-pages], "")
	r := impl.Record{Seq: seq}
	for i := range pages {
		r.Pages = append(r.Pages, pageAt(int64(binary.LittleEndian.Uint16([]byte(table[2*i:]))), blocks[size-pages+i]))
	}
	if !isRecord(r) || strings.Trim(table[2*pages:], "\x00") != "" {
		return impl.Record{}, impl.ErrCorrupt
	}
	return r, impl.OK
}

// scannedIn tells what impl.ScanLog should return.
func scannedIn(d impl.Disk, s impl.Super) ([]impl.Record, int64, int64) {
	if !isDisk(d) || !isSuper(s) || s.Blocks != int64(len(d.Blocks)) {
		return nil, 0, impl.ErrInvalid
	}
	var records []impl.Record
	at := int64(0)
	for {
		var rest []string
		for k := at; k < s.Log; k++ {
			rest = append(rest, readFrom(d, 2+k))
		}
		r, code := recordFrom(rest)
		if code != impl.OK || r.Seq != s.Seq+int64(len(records))+1 || r.Pages[0].Block < 2+s.Log || r.Pages[len(r.Pages)-1].Block >= s.Blocks {
			return records, at, impl.OK
		}
		records = append(records, r)
		at += sizeOfRecord(int64(len(r.Pages)))
	}
}

// stateIn tells what impl.LogState should return.
func stateIn(d impl.Disk, s impl.Super) ([]impl.Page, int64, int64) {
	records, _, code := scannedIn(d, s)
	if code != impl.OK {
		return nil, 0, code
	}
	var pages []impl.Page
	for _, r := range records {
		pages = mergedPages(pages, r.Pages)
	}
	return pages, s.Seq + int64(len(records)), impl.OK
}

// withLog returns a disk whose log has these records from its beginning on.
func withLog(d impl.Disk, records ...impl.Record) impl.Disk {
	var log []string
	for _, r := range records {
		log = append(log, blocksOfRecord(r)...)
	}
	return withBlocks(d, 2, log)
}

// withBlocks returns a disk with these blocks from a number on.
func withBlocks(d impl.Disk, at int64, blocks []string) impl.Disk {
	d.Blocks = slices.Clone(d.Blocks)
	copy(d.Blocks[at:], blocks)
	return d
}

// badPages are lists of pages that are not valid.
func badPages() [][]impl.Page {
	block := blockOf("a")
	list := [][]impl.Page{
		pagesAt("a", 3, 3), pagesAt("a", 4, 3), pagesAt("a", 0, 0), pagesAt("a", 1, 2, 2), pagesAt("a", 1, 3, 2), pagesAt("a", 255, 0), pagesAt("a", 1, 2, 3, 1), {{}}, {pageAt(0, block), {}},
		pagesAt("a", append(numbersFrom(0, 255), 255)...), pagesAt("a", append(numbersFrom(0, 255), 256)...), pagesAt("a", append([]int64{0}, numbersFrom(0, 255)...)...), pagesAt("a", numbersFrom(-1, 255)...), pagesAt("a", numbersFrom(0, 1000)...),
	}
	for _, k := range []int64{-1, -2, 256, 257, 65536, math.MinInt64, math.MaxInt64} {
		list = append(list, pagesAt("a", k), pagesAt("a", min(k, 3), max(k, 3)), pagesAt("a", max(k, 3), min(k, 3)))
	}
	for _, size := range []int{0, 1, 63, 65, 128, 1000000} {
		for i := range 3 {
			bad := pagesAt("a", 1, 2, 3)
			bad[i].Data = strings.Repeat("a", size)
			list = append(list, bad)
		}
	}
	return list
}

// goodPages are valid lists of pages, from none to as many as there are.
func goodPages() [][]impl.Page {
	return [][]impl.Page{nil, pagesAt("a", 0), pagesAt("b", 255), pagesAt("c", 3, 5), pagesAt("d", 4, 5), pagesAt("e", 0, 255), pagesAt("f", 0, 1, 2), pagesAt("g", 253, 254, 255), pagesAt("h", 2, 3, 4, 5, 6), pagesAt("i", numbersFrom(0, 127)...), pagesAt("j", numbersFrom(100, 255)...), pagesAt("k", numbersFrom(0, 254)...), pagesAt("l", numbersFrom(1, 255)...), pagesAt("m", numbersFrom(0, 255)...)}
}

// drawPages returns up to so many pages with numbers from low to high.
func (m typeMaker) drawPages(most int, low, high int64) []impl.Page {
	blocks := map[int64]bool{}
	for range m.IntN(most + 1) {
		blocks[m.between(low, high)] = true
	}
	var list []impl.Page
	for k := low; k <= high; k++ {
		if blocks[k] {
			list = append(list, pageAt(k, m.drawBlock()))
		}
	}
	return list
}

func (m typeMaker) drawRecord(seq int64, most int, low, high int64) impl.Record {
	for {
		if pages := m.drawPages(most, low, high); len(pages) > 0 {
			return impl.Record{Seq: seq, Pages: pages}
		}
	}
}

func roomyPages(list []impl.Page) []impl.Page {
	return append(slices.Clone(list), pageAt(7, "spare"), pageAt(-7, blockOf("s")))[:len(list)]
}

func widePages(list []impl.Page) []impl.Page {
	return slices.Clone(list[:cap(list)])
}

// checkValues compares two lists of values; nil and empty slices are equal.
func checkValues(t *testing.T, what string, got, want []any) {
	t.Helper()
	checkShown(t, what, shown(got...), shown(want...))
}
