package tests

import (
	"maps"
	"math"
	"slices"
	"strings"
	"testing"

	"loop.example/g00904/impl"
)

func TestP15Constants(t *testing.T) {
	check(t, "kinds of messages", []int{impl.MsType, impl.MsSpace, impl.MsLayout, impl.MsFilters, impl.MsFill, impl.MsAttribute, impl.MsLinks, impl.MsVirtual, impl.MsNames}, []int{1, 2, 3, 4, 5, 6, 7, 8, 9})
	check(t, "kinds of objects and limits", []int{impl.ObGroup, impl.ObDataset, impl.ObVirtual, impl.MaxMessages, impl.MaxMessage, impl.MaxRefs, impl.HeaderBytes}, []int{1, 2, 3, 24, 200, 1000, 60})
}

// manyMessages returns so many messages with so much data each.
func manyMessages(count, size int) []impl.Message {
	var list []impl.Message
	for i := range count {
		list = append(list, message(int64(i%9+1), int64(i), strings.Repeat(string(rune('a'+i%26)), size)))
	}
	return list
}

func goodHeaders() []impl.Header {
	list := []impl.Header{
		headerOf(1, 1), headerOf(2, 0), headerOf(3, 1000), headerOf(1, 255), headerOf(1, 256), headerOf(3, 999),
		headerOf(1, 1, message(1, 0, "")), headerOf(1, 1, message(9, 255, "")), headerOf(1, 1, message(5, 128, strings.Repeat("\x00", 200))), headerOf(2, 1, message(3, 1, "\x00"), message(3, 1, "\x00")),
		headerOf(2, 1, manyMessages(24, 0)...), headerOf(2, 1, manyMessages(24, 200)...), headerOf(2, 1, manyMessages(23, 199)...),
	}
	for kind := int64(1); kind <= 9; kind++ {
		list = append(list, headerOf(kind%3+1, kind, message(kind, kind, "data")))
	}
	return list
}

// badHeaders are headers that are invalid in one of their fields.
func badHeaders() []impl.Header {
	list := []impl.Header{
		{}, headerOf(0, 1), headerOf(4, 1), headerOf(-1, 1), headerOf(255, 1), headerOf(256, 1), headerOf(257, 1), headerOf(1, -1), headerOf(1, 1001), headerOf(1, 65535), headerOf(1, 65536), headerOf(1, 65537),
		headerOf(2, 1, manyMessages(25, 0)...), headerOf(2, 1, manyMessages(256, 0)...), headerOf(2, 1, manyMessages(257, 1)...), headerOf(2, 1, manyMessages(1, 201)...), headerOf(2, 1, manyMessages(1, 255)...), headerOf(2, 1, manyMessages(1, 256)...), headerOf(2, 1, manyMessages(1, 100000)...), headerOf(2, 1, manyMessages(24, 201)...),
	}
	for _, n := range []int64{math.MinInt64, math.MaxInt64} {
		list = append(list, headerOf(n, 1), headerOf(1, n))
	}
	for _, bad := range []impl.Message{{}, message(0, 1, "a"), message(10, 1, "a"), message(-1, 1, "a"), message(256, 1, "a"), message(257, 1, "a"), message(1, -1, "a"), message(1, 256, "a"), message(1, 257, "a"), message(math.MinInt64, 0, ""), message(math.MaxInt64, 0, ""), message(1, math.MinInt64, ""), message(1, math.MaxInt64, ""), message(4, 4, strings.Repeat("a", 201))} {
		good := message(9, 9, "good")
		list = append(list, headerOf(1, 1, bad), headerOf(1, 1, bad, good), headerOf(1, 1, good, bad), headerOf(1, 1, good, bad, good))
	}
	return list
}

// checkHeader checks the functions of a header, which need not be valid.
func checkHeader(t *testing.T, h impl.Header) {
	t.Helper()
	want := ""
	if isHeader(h) {
		want = formOf(h)
	}
	form := impl.EncodeHeader(h)
	check(t, shown("form of", h), []any{impl.ValidHeader(h), form}, []any{isHeader(h), want})
	for kind := int64(-1); kind <= 11; kind++ {
		var wantMessage impl.Message
		i := slices.IndexFunc(h.Messages, func(m impl.Message) bool { return m.Kind == kind })
		if isHeader(h) && i >= 0 {
			wantMessage = h.Messages[i]
		}
		m, ok := impl.MessageOf(h, kind)
		check(t, shown("MessageOf", h, kind), []any{m, ok}, []any{wantMessage, isHeader(h) && i >= 0})
	}
	if isHeader(h) {
		back, ok := impl.DecodeHeader(form)
		check(t, shown("DecodeHeader of the form of", h), []bool{ok, impl.SameHeader(back, h)}, []bool{true, true})
	}
}

func TestP15HeadersAreRestored(t *testing.T) {
	for _, h := range goodHeaders() {
		check(t, shown("ValidHeader", h), []bool{impl.ValidHeader(h), isHeader(h)}, []bool{true, true})
		checkHeader(t, h)
	}
	m := newTypeMaker(102)
	for range 1000 {
		checkHeader(t, m.drawHeader(200))
	}
}

func TestP15HeadersThatAreNotValid(t *testing.T) {
	p := onDisk(t, 40, 12, chainOf(formOf(goodHeaders()[0]), []int64{20})...)
	for _, h := range badHeaders() {
		check(t, shown("ValidHeader", h), []bool{impl.ValidHeader(h), isHeader(h)}, []bool{false, false})
		checkHeader(t, h)
		_, _, code := checkCreate(t, "not valid", p, h)
		check(t, "CreateHeader", code, int64(impl.ErrInvalid))
		for _, at := range []int64{20, 21, -1} {
			_, code = checkRewrite(t, "not valid", p, at, h)
			check(t, "WriteHeader", code, int64(impl.ErrInvalid))
		}
	}
}

func TestP15WrittenForms(t *testing.T) {
	for form, h := range map[string]impl.Header{
		"\x01\x01\x00\x00":                                           headerOf(impl.ObGroup, 1),
		"\x02\xe8\x03\x00":                                           headerOf(impl.ObDataset, 1000),
		"\x03\x00\x01\x02\x09\xff\x00\x01\x00\x02ab":                 headerOf(impl.ObVirtual, 256, message(impl.MsNames, 255, ""), message(impl.MsType, 0, "ab")),
		"\x01\x00\x00\x01\x06\x07\x03\x00\x00\x00":                   headerOf(impl.ObGroup, 0, message(impl.MsAttribute, 7, "\x00\x00\x00")),
		"\x01\x02\x00\x02\x05\x00\x01x\x05\x00\x01y":                 headerOf(impl.ObGroup, 2, message(impl.MsFill, 0, "x"), message(impl.MsFill, 0, "y")),
		"\x02\x03\x00\x01\x08\x01\xc8" + blockOf("abc") + "12345678": headerOf(impl.ObDataset, 3, message(impl.MsVirtual, 1, blockOf("abc")+"12345678")),
	} {
		check(t, shown("EncodeHeader", h), impl.EncodeHeader(h), form)
		got, ok := impl.DecodeHeader(form)
		checkValues(t, shown("DecodeHeader", h), []any{got, ok}, []any{h, true})
	}
}

func checkDecode(t *testing.T, form string) bool {
	t.Helper()
	want, wantOk := headerFrom(form)
	h, ok := impl.DecodeHeader(form)
	if ok != wantOk || !impl.SameHeader(h, want) {
		t.Errorf("DecodeHeader of %q: got %v and %v, want %v and %v", form, h, ok, want, wantOk)
	}
	return ok
}

func TestP15FormsThatAreNotValid(t *testing.T) {
	for _, form := range []string{
		"", "\x01", "\x01\x01", "\x01\x01\x00", "\x01\x01\x00\x00\x00", "\x01\x01\x00\x01", "\x01\x01\x00\x01\x01", "\x01\x01\x00\x01\x01\x00", "\x01\x01\x00\x01\x01\x00\x01", "\x01\x01\x00\x01\x01\x00\x02a", "\x01\x01\x00\x01\x01\x00\x01ab",
		"\x00\x01\x00\x00", "\x04\x01\x00\x00", "\xff\x01\x00\x00", "\x01\xe9\x03\x00", "\x01\x00\x04\x00", "\x01\xff\xff\x00", "\x01\x01\x00\x01\x00\x00\x00", "\x01\x01\x00\x01\x0a\x00\x00", "\x01\x01\x00\x01\xff\x00\x00",
		"\x01\x01\x00\x19" + strings.Repeat("\x01\x00\x00", 25), "\x01\x01\x00\xff" + strings.Repeat("\x01\x00\x00", 255), "\x01\x01\x00\x00" + strings.Repeat("\x01\x00\x00", 256), "\x01\x01\x00\x18" + strings.Repeat("\x01\x00\x00", 23), "\x01\x01\x00\x17" + strings.Repeat("\x01\x00\x00", 24),
		"\x01\x01\x00\x01\x01\x00\xc9" + strings.Repeat("a", 201), "\x01\x01\x00\x01\x01\x00\xff" + strings.Repeat("a", 255), "\x01\x01\x00\x01\x01\x00\x00" + strings.Repeat("a", 256), strings.Repeat("\x01", 100000), strings.Repeat("\x00", 100000), strings.Repeat("\xff", 100000),
	} {
		check(t, shown("is a form", []byte(form[:min(9, len(form))])), checkDecode(t, form), false)
	}
	check(t, "24 messages", checkDecode(t, "\x01\x01\x00\x18"+strings.Repeat("\x01\x00\x00", 24)), true)
	check(t, "200 bytes", checkDecode(t, "\x01\x01\x00\x01\x01\x00\xc8"+strings.Repeat("a", 200)), true)
}

// Every byte of a form with another value, and every length.
func TestP15DamagedForms(t *testing.T) {
	counts := map[bool]int{}
	for _, h := range append(goodHeaders()[:10], longHeader(90)) {
		form := formOf(h)
		for i := range min(len(form), 100) {
			counts[checkDecode(t, form[:i])]++
			counts[checkDecode(t, form[i:])]++
			for c := range 256 {
				counts[checkDecode(t, form[:i]+string([]byte{byte(c)})+form[i+1:])]++
			}
		}
		for c := range 256 {
			counts[checkDecode(t, form+string([]byte{byte(c)}))]++
		}
	}
	if counts[true] < 1000 || counts[false] < 1000 {
		t.Errorf("too few: %v", counts)
	}
	m := newTypeMaker(103)
	for range 20000 {
		form := []byte(m.drawBlock())[:m.IntN(20)]
		for i := range form {
			form[i] %= 6
		}
		checkDecode(t, string(form))
	}
}

func TestP15SameHeaders(t *testing.T) {
	for _, base := range []impl.Header{headerOf(1, 2, message(3, 4, "five"), message(6, 7, "eight")), headerOf(-1, -2, message(-3, -4, strings.Repeat("a", 300)), impl.Message{})} {
		check(t, "same", impl.SameHeader(base, roomyHeader(base)), true)
		for i, change := range []func(h *impl.Header){
			func(h *impl.Header) { h.Kind++ }, func(h *impl.Header) { h.Refs++ }, func(h *impl.Header) { h.Messages[0].Kind++ }, func(h *impl.Header) { h.Messages[1].Flags++ }, func(h *impl.Header) { h.Messages[0].Data += "a" }, func(h *impl.Header) { h.Messages[1].Data += "\x00" },
			func(h *impl.Header) { h.Messages = h.Messages[:1] }, func(h *impl.Header) { h.Messages = nil }, func(h *impl.Header) { h.Messages = append(h.Messages, impl.Message{}) }, func(h *impl.Header) { slices.Reverse(h.Messages) }, func(h *impl.Header) { h.Kind, h.Refs = h.Refs, h.Kind },
		} {
			h := roomyHeader(base)
			change(&h)
			check(t, "change", []any{i, impl.SameHeader(base, h), impl.SameHeader(h, base), impl.SameHeader(h, h)}, []any{i, false, false, true})
		}
	}
	check(t, "nil and empty", impl.SameHeader(impl.Header{}, impl.Header{Messages: []impl.Message{}}), true)
}

func TestP15FirstMessages(t *testing.T) {
	h := headerOf(2, 1, message(6, 1, "first"), message(2, 2, ""), message(6, 3, "second"), message(2, 4, "third"))
	for kind := int64(0); kind <= 10; kind++ {
		want := map[int64]impl.Message{6: message(6, 1, "first"), 2: message(2, 2, "")}[kind]
		m, ok := impl.MessageOf(h, kind)
		check(t, shown("MessageOf", kind), []any{m, ok}, []any{want, want.Kind != 0})
	}
	h.Refs = 1001
	m, ok := impl.MessageOf(h, 6)
	check(t, "MessageOf an invalid header", []any{m, ok}, []any{impl.Message{}, false})
}

// The blocks of a chain, written out.
func TestP15WrittenChains(t *testing.T) {
	p := emptyStore(t, 40, 12)
	p, at, code := checkCreate(t, "written", p, headerOf(impl.ObGroup, 1))
	check(t, "CreateHeader", []any{at, code, p.Dirty[1]}, []any{int64(15), int64(impl.OK), pageAt(15, "\x00\x00\x04\x00\x01\x01\x00\x00"+blockOf("\x00")[8:])})
	data := strings.Repeat("0123456789", 13)
	p, at, code = checkCreate(t, "written", p, headerOf(impl.ObDataset, 2, message(impl.MsFill, 3, data)))
	check(t, "CreateHeader", []any{at, code, p.Dirty[2:]}, []any{int64(16), int64(impl.OK), []impl.Page{
		pageAt(16, "\x11\x00\x3c\x00\x02\x02\x00\x01\x05\x03\x82"+data[:53]), pageAt(17, "\x12\x00\x3c\x00"+data[53:113]), pageAt(18, "\x00\x00\x11\x00"+data[113:]+blockOf("\x00")[:43]),
	}})
	// The free blocks between others come first, whatever their order.
	p = spacedStore(t, "x.xx.x..xxx")
	p, at, code = checkCreate(t, "written", p, longHeader(240))
	_, blocks, _ := checkObject(t, "written", p, at)
	check(t, "HeaderBlocks", []any{at, code, blocks, spaceText(p)}, []any{int64(12), int64(impl.OK), []int64{12, 15, 17, 18}, "xxxxxxxxxxx"})
}

// Binary forms of every length around the multiples of HeaderBytes.
func TestP15LengthsOfForms(t *testing.T) {
	p := emptyStore(t, 100, 64)
	free := impl.FreeCount(p)
	for _, size := range append(numbersFrom(7, 250), 4, 539, 540, 541, 1199, 1200, 1201) {
		h := longHeader(int(size))
		check(t, "size", len(formOf(h)), int(size))
		after, at, code := checkCreate(t, "lengths", p, h)
		back, blocks, readCode := checkObject(t, "lengths", after, at)
		count := (size + 59) / 60
		check(t, shown("chain", size), []any{code, readCode, impl.SameHeader(back, h), int64(len(blocks)), impl.FreeCount(after)}, []any{int64(impl.OK), int64(impl.OK), true, count, free - count})
		last, _ := impl.GetPage(after, blocks[count-1])
		check(t, shown("last block", size), []byte(last[:4]), []byte{0, 0, byte(size - 60*(count-1)), 0})
		none, code := checkFree(t, "lengths", after, at)
		check(t, "FreeHeader", []any{code, impl.FreeCount(none)}, []any{int64(impl.OK), free})
		_, _, code = checkObject(t, "lengths", none, at)
		check(t, "a header that was freed", code, int64(impl.ErrCorrupt))
	}
}

// Chains of some lengths become chains of other lengths.
func TestP15ChainsThatGrowAndShrink(t *testing.T) {
	sizes := []int{4, 7, 59, 60, 61, 119, 120, 121, 180, 181, 300, 301}
	for _, from := range sizes {
		for _, to := range sizes {
			what := shown(from, to)
			p := onDisk(t, 100, 30, pagesAt("between others", 34, 37)...)
			p, other, _ := impl.CreateHeader(p, longHeader(100))
			p, at, code := checkCreate(t, what, p, longHeader(from))
			check(t, what, code, int64(impl.OK))
			p, code = impl.Commit(p)
			check(t, what, code, int64(impl.OK))
			_, old, _ := checkObject(t, what, p, at)
			after, code := checkRewrite(t, what, p, at, longHeader(to))
			h, blocks, _ := checkObject(t, what, after, at)
			kept := min(len(old), len(blocks))
			check(t, what, []any{code, impl.SameHeader(h, longHeader(to)), len(blocks), blocks[:kept]}, []any{int64(impl.OK), true, (to + 59) / 60, old[:kept]})
			_, inArea := impl.PageOf(after.Dirty, 32)
			check(t, shown(what, "the allocation page is in the transaction"), inArea, len(blocks) != len(old))
			for _, k := range old {
				check(t, shown(what, "IsAllocated", k), impl.IsAllocated(after, k), slices.Contains(blocks, k))
			}
			for _, k := range old[kept:] {
				_, inDirty := impl.PageOf(after.Dirty, k)
				check(t, shown(what, "a released block is written", k), inDirty, false)
			}
			check(t, what, impl.FreeCount(after), impl.FreeCount(p)+int64(len(old)-len(blocks)))
			h, _, code = checkObject(t, what, after, other)
			check(t, "another object", []any{code, impl.SameHeader(h, longHeader(100))}, []any{int64(impl.OK), true})
			none, code := checkFree(t, what, after, at)
			check(t, what, []any{code, impl.FreeCount(none)}, []any{int64(impl.OK), impl.FreeCount(p) + int64(len(old))})
		}
	}
}

// chainPlaces are the blocks of the chain that the following tests damage, in
// a store whose data blocks are 15 to 39.
var chainPlaces = []int64{20, 17, 39}

// chainedStore returns a store with a chain in three blocks, the pages of which
// a change may damage; 25 is allocated, too.
func chainedStore(t *testing.T, size int, change func(pages []impl.Page)) impl.Pager {
	t.Helper()
	pages := chainOf(formOf(longHeader(size)), chainPlaces)
	change(pages)
	return onDisk(t, 40, 12, append(pages, pagesAt("allocated", 25)...)...)
}

// checkNoObject checks that a block is no object, and that no function takes it for one.
func checkNoObject(t *testing.T, what string, p impl.Pager, at int64) {
	t.Helper()
	_, _, code := checkObject(t, what, p, at)
	_, writeCode := checkRewrite(t, what, p, at, headerOf(1, 1))
	_, freeCode := checkFree(t, what, p, at)
	check(t, shown(what, at), []int64{code, writeCode, freeCode}, []int64{impl.ErrCorrupt, impl.ErrCorrupt, impl.ErrCorrupt})
}

func TestP15ChainsThatAreDamaged(t *testing.T) {
	p := chainedStore(t, 150, func(pages []impl.Page) {})
	h, blocks, code := checkObject(t, "a chain", p, 20)
	check(t, "a chain", []any{code, impl.SameHeader(h, longHeader(150)), blocks}, []any{int64(impl.OK), true, []int64{20, 17, 39}})
	for _, at := range []int64{17, 39, 25, 15, 16, 40, 14, 13, 1, 0, -1, 256, 20 + 65536, -20, math.MinInt64, math.MaxInt64} {
		checkNoObject(t, "no object", p, at)
	}
	form := formOf(longHeader(150))
	for what, page := range map[string]impl.Page{
		"the first block again": pageAt(39, linkBlock(20, 60, form[:60])), "itself": pageAt(39, linkBlock(39, 60, form[:60])), "itself at first": pageAt(20, linkBlock(20, 60, form[:60])), "the second block again": pageAt(39, linkBlock(17, 60, form[:60])), "the first block from the second": pageAt(17, linkBlock(20, 60, form[60:120])),
		"a block that is free": pageAt(17, linkBlock(16, 60, form[60:120])), "the allocation page": pageAt(17, linkBlock(14, 60, form[60:120])), "a block of the log": pageAt(17, linkBlock(2, 60, form[60:120])), "a superblock": pageAt(17, linkBlock(1, 60, form[60:120])), "no block": pageAt(17, linkBlock(40, 60, form[60:120])), "the number 256": pageAt(17, linkBlock(256, 60, form[60:120])), "39 and 256": pageAt(17, linkBlock(39+256, 60, form[60:120])), "the number 65535": pageAt(17, linkBlock(65535, 60, form[60:120])), "something else": pageAt(17, linkBlock(25, 60, form[60:120])),
		"n of 0 at the end": pageAt(39, linkBlock(0, 0, "")), "n of 0": pageAt(17, linkBlock(39, 0, "")), "n of 59": pageAt(17, linkBlock(39, 59, form[60:119])), "n of 61": pageAt(17, linkBlock(39, 61, form[60:120])), "n of 60 and 256": pageAt(17, linkBlock(39, 316, form[60:120])), "n of 65535": pageAt(17, linkBlock(39, 65535, form[60:120])), "n of 61 at the end": pageAt(39, linkBlock(0, 61, form[120:])), "n of 30 and 256 at the end": pageAt(39, linkBlock(0, 286, form[120:])),
		"n too small at the end": pageAt(39, linkBlock(0, 29, form[120:149])), "n too small for the bytes": pageAt(39, linkBlock(0, 29, form[120:])), "n too great at the end": pageAt(39, linkBlock(0, 31, form[120:]+"\x00")), "a byte behind the form": pageAt(39, linkBlock(0, 30, form[120:]+"\x01")), "the last byte": pageAt(39, linkBlock(0, 30, form[120:])[:63]+"\x01"), "an end too early": pageAt(17, linkBlock(0, 60, form[60:120])), "zero bytes": pageAt(39, blockOf("\x00")),
		"a kind of 0": pageAt(20, linkBlock(17, 60, "\x00"+form[1:60])), "a kind of 4": pageAt(20, linkBlock(17, 60, "\x04"+form[1:60])), "Refs of 1001": pageAt(20, linkBlock(17, 60, form[:1]+"\xe9\x03"+form[3:60])), "two messages": pageAt(20, linkBlock(17, 60, form[:3]+"\x02"+form[4:60])), "a message of kind 10": pageAt(20, linkBlock(17, 60, form[:4]+"\x0a"+form[5:60])), "a shorter message": pageAt(20, linkBlock(17, 60, form[:6]+"\x8e"+form[7:60])),
	} {
		damaged := chainedStore(t, 150, func(pages []impl.Page) { pages[slices.Index(chainPlaces, page.Block)] = page })
		checkNoObject(t, what, damaged, 20)
	}
	for _, k := range chainPlaces {
		_, area := areaOf(p)
		checkNoObject(t, "a block that is not allocated", withArea(p, 0, withBits(area, false, k)), 20)
	}
	// The same chains in blocks that are full.
	full := chainedStore(t, 180, func(pages []impl.Page) {})
	_, _, code = checkObject(t, "full", full, 20)
	check(t, "full blocks", code, int64(impl.OK))
	form = formOf(longHeader(180))
	for what, page := range map[string]impl.Page{"an empty block behind it": pageAt(39, linkBlock(25, 60, form[120:])), "n of 59 at the end": pageAt(39, linkBlock(0, 59, form[120:179])), "n of 61 at the end": pageAt(39, linkBlock(0, 61, form[120:])), "n of 0 at the end": pageAt(39, linkBlock(0, 0, form[120:]))} {
		damaged := chainedStore(t, 180, func(pages []impl.Page) { pages[2] = page })
		damaged.Disk = withBlocks(damaged.Disk, 25, []string{blockOf("\x00")})
		checkNoObject(t, what, damaged, 20)
	}
}

// Every byte of every block of a chain with some other values.
func TestP15DamagedBytesOfChains(t *testing.T) {
	counts := map[int64]int{}
	for _, size := range []int{150, 180} {
		for i := range chainPlaces {
			for b := range 64 {
				for _, value := range []byte{0, 1, 4, 9, 10, 14, 15, 17, 20, 25, 39, 40, 59, 60, 61, 255} {
					p := chainedStore(t, size, func(pages []impl.Page) {
						data := []byte(pages[i].Data)
						data[b] = value
						pages[i].Data = string(data)
					})
					_, _, code := checkObject(t, shown("damaged", size, i, b, value), p, 20)
					counts[code]++
				}
			}
		}
	}
	if counts[impl.OK] < 100 || counts[impl.ErrCorrupt] < 100 {
		t.Errorf("too few of a code: %v", counts)
	}
}

// A chain is read in the transaction, in the log, and on the disk.
func TestP15ChainsInThreePlaces(t *testing.T) {
	pages := chainOf(formOf(longHeader(150)), []int64{20, 17, 38})
	for places := range 27 {
		p := scattered(t, 40, 12, pages, places)
		_, blocks, code := checkObject(t, shown("places", places), p, 20)
		check(t, shown("places", places), []any{code, blocks}, []any{int64(impl.OK), []int64{20, 17, 38}})
		_, code = checkRewrite(t, shown("places", places), p, 20, longHeader(70))
		check(t, "WriteHeader", code, int64(impl.OK))
	}
}

// A chain with as many blocks as the longest header has, which no transaction
// can write, and the longest ones that one can write.
func TestP15LongestChains(t *testing.T) {
	longest := headerOf(impl.ObVirtual, 1000, manyMessages(24, 200)...)
	var blocks []int64
	for i := range int64(82) {
		blocks = append(blocks, 255-2*i+i/41)
	}
	slices.Sort(blocks)
	slices.Reverse(blocks)
	p := onDisk(t, 256, 64, chainOf(formOf(longest), blocks)...)
	h, got, code := checkObject(t, "the longest chain", p, blocks[0])
	check(t, "the longest chain", []any{len(formOf(longest)), code, impl.SameHeader(h, longest), got}, []any{4876, int64(impl.OK), true, blocks})
	_, code = checkRewrite(t, "the longest chain", p, blocks[0], longest)
	check(t, "WriteHeader of the longest header", code, int64(impl.ErrFull))
	for size, want := range map[int]int64{4: impl.OK, 3480: impl.OK, 3540: impl.OK, 3541: impl.ErrFull, 3600: impl.ErrFull, 3601: impl.ErrFull} {
		_, code = checkRewrite(t, "the longest chain", p, blocks[0], longHeader(size))
		check(t, shown("WriteHeader", size), code, want)
		_, _, code = checkCreate(t, "empty", emptyStore(t, 256, 64), longHeader(size))
		check(t, shown("CreateHeader", size), code, want)
	}
	_, _, code = checkCreate(t, "empty", emptyStore(t, 256, 64), longest)
	check(t, "CreateHeader of the longest header", code, int64(impl.ErrFull))
	none, code := checkFree(t, "the longest chain", p, blocks[0])
	check(t, "FreeHeader of the longest chain", []any{code, impl.FreeCount(none), len(none.Dirty)}, []any{int64(impl.OK), int64(189), 1})
	// A chain of 60 blocks can be written again, but no longer one.
	p = onDisk(t, 256, 64, chainOf(formOf(longHeader(3590)), blocks[:60])...)
	for size, want := range map[int]int64{3541: impl.OK, 3600: impl.OK, 3601: impl.ErrFull, 3540: impl.OK} {
		_, code = checkRewrite(t, "sixty blocks", p, blocks[0], longHeader(size))
		check(t, shown("WriteHeader", size), code, want)
	}
}

// Stores with few free blocks, and transactions with little room.
func TestP15StoresWithLittleRoom(t *testing.T) {
	for free := range 5 {
		p := spacedStore(t, "xxxxx"+strings.Repeat(".", free)+"xxx")
		for blocks := 1; blocks <= 5; blocks++ {
			want := int64(impl.OK)
			if blocks > free {
				want = impl.ErrFull
			}
			_, _, code := checkCreate(t, shown("free", free), p, longHeader(60*blocks-10))
			check(t, shown("CreateHeader", free, blocks), code, want)
			for old := 1; old <= 5; old++ {
				with := withPages(t, p, chainOf(formOf(longHeader(60*old)), numbersFrom(11, 10+int64(old)))...)
				with, _ = impl.Commit(with)
				want = int64(impl.OK)
				if blocks-old > free {
					want = impl.ErrFull
				}
				_, code = checkRewrite(t, shown("free", free, old), with, 11, longHeader(60*blocks-10))
				check(t, shown("WriteHeader", free, old, blocks), code, want)
			}
		}
	}
	// The log takes 6 pages.
	old := withPages(t, spacedStore(t, "xxx................"), chainOf(formOf(longHeader(130)), numbersFrom(11, 13))...)
	old, _ = impl.Commit(old)
	for dirty := range 7 {
		p := withPages(t, old, pagesAt("dirty", numbersFrom(20, 19+int64(dirty))...)...)
		room := 6 - dirty
		for blocks := 1; blocks <= 5; blocks++ {
			codes := []int64{}
			_, _, code := checkCreate(t, "room", p, longHeader(60*blocks))
			codes = append(codes, code)
			_, code = checkRewrite(t, "room", p, 11, longHeader(60*blocks))
			codes = append(codes, code)
			_, code = checkFree(t, "room", p, 11)
			codes = append(codes, code)
			needed := []int{blocks + 1, blocks + 1, 1}
			if blocks == 3 {
				needed[1] = 3
			}
			for i, code := range codes {
				check(t, shown("room", room, blocks, i), code == impl.OK, needed[i] <= room)
			}
		}
	}
}

// Every combination of the causes of an error.
func TestP15OrderOfErrors(t *testing.T) {
	codes := map[string]int{}
	for bits := range 32 {
		p := spacedStore(t, "xxx......xxx.................")
		p = withPages(t, p, chainOf(formOf(longHeader(130)), []int64{11, 12, 13})...)
		p = withPages(t, p, pagesAt("dirty", 25)...)
		at, h := int64(11), longHeader(121)
		for i, cause := range []func(){
			func() { p = withPages(t, p, pagesAt("dirty", 30, 31)...) }, func() { h = longHeader(61) }, func() { p.At = 9 }, func() { at = 12 }, func() { h.Refs = 1001 },
		} {
			if bits>>i&1 == 1 {
				cause()
			}
		}
		what := shown("errors", bits)
		_, _, code := checkCreate(t, what, p, h)
		codes[shown("create", code)]++
		_, code = checkRewrite(t, what, p, at, h)
		codes[shown("write", code)]++
		_, code = checkFree(t, what, p, at)
		codes[shown("free", code)]++
		_, _, code = checkObject(t, what, p, at)
		codes[shown("read", code)]++
	}
	check(t, "codes", codes, map[string]int{"[create 1]": 24, "[create 5]": 8, "[free 0]": 4, "[free 1]": 16, "[free 10]": 8, "[free 5]": 4, "[read 0]": 8, "[read 1]": 16, "[read 10]": 8, "[write 0]": 3, "[write 1]": 24, "[write 10]": 4, "[write 5]": 1})
}

func TestP15PagersThatAreNotValid(t *testing.T) {
	for i, p := range badPagers() {
		what := shown("bad", i)
		for _, h := range []impl.Header{headerOf(1, 1), headerOf(0, 1), longHeader(300)} {
			_, _, code := checkCreate(t, what, p, h)
			codes := []int64{code}
			for _, at := range []int64{0, 12, 20, 39, math.MaxInt64} {
				_, code = checkRewrite(t, what, p, at, h)
				codes = append(codes, code)
				_, code = checkFree(t, what, p, at)
				codes = append(codes, code)
				_, _, code = checkObject(t, what, p, at)
				codes = append(codes, code)
			}
			check(t, what, codes, slices.Repeat([]int64{impl.ErrInvalid}, 16))
		}
	}
}

// objects is a store with what is known of its objects.
type objects struct {
	t       *testing.T
	m       typeMaker
	p       impl.Pager
	headers map[int64]impl.Header
	codes   map[string]int
}

// act makes one drawn change, and takes it over if it succeeds.
func (o *objects) act() {
	h := o.m.drawHeader(o.m.between(0, 80))
	numbers := slices.Sorted(maps.Keys(o.headers))
	if len(numbers) == 0 || o.m.IntN(3) == 0 {
		p, at, code := checkCreate(o.t, "history", o.p, h)
		o.codes[shown("create", code)]++
		if code == impl.OK {
			check(o.t, "the number of an object is new", o.headers[at].Kind, int64(0))
			o.p, o.headers[at] = p, h
		}
		return
	}
	at := numbers[o.m.IntN(len(numbers))]
	if o.m.IntN(3) == 0 {
		p, code := checkFree(o.t, "history", o.p, at)
		o.codes[shown("free", code)]++
		if code == impl.OK {
			o.p = p
			delete(o.headers, at)
			_, _, code = checkObject(o.t, "history", p, at)
			check(o.t, "an object that was freed", code, int64(impl.ErrCorrupt))
		}
		return
	}
	p, code := checkRewrite(o.t, "history", o.p, at, h)
	o.codes[shown("write", code)]++
	if code == impl.OK {
		o.p, o.headers[at] = p, h
	}
}

// checkAll checks that all headers are read back, and that their chains are
// exactly the blocks that are allocated, each in one chain only.
func (o *objects) checkAll() {
	var chains [][]int64
	for at, want := range o.headers {
		h, code := impl.ReadHeader(o.p, at)
		check(o.t, "ReadHeader", []any{code, impl.SameHeader(h, want)}, []any{int64(impl.OK), true})
		blocks, _ := impl.HeaderBlocks(o.p, at)
		chains = append(chains, blocks)
	}
	checkOwners(o.t, "history", o.p, chains...)
}

func TestP15Histories(t *testing.T) {
	m := newTypeMaker(104)
	codes := map[string]int{}
	for range 25 {
		blocks := []int64{20, 40, 256, m.between(16, 256)}[m.IntN(4)]
		o := &objects{t, m, emptyStore(t, blocks, m.between(8, min(64, blocks-4))), map[int64]impl.Header{}, codes}
		kept := map[int64]impl.Header{}
		for range 60 {
			var code int64
			switch m.IntN(6) {
			case 0:
				o.p, code = impl.Discard(o.p)
				o.headers = maps.Clone(kept)
			case 1, 2:
				o.p, code = impl.Commit(o.p)
				kept = maps.Clone(o.headers)
			default:
				o.act()
			}
			check(t, "code", code, int64(impl.OK))
			o.checkAll()
		}
	}
	for _, name := range []string{"create 0", "create 5", "write 0", "write 5", "free 0"} {
		if codes["["+name+"]"] < 20 {
			t.Errorf("too few of %s: %v", name, codes)
		}
	}
}

// headerResults returns what all functions of the chapter return.
func headerResults(p impl.Pager, at int64, h impl.Header, form string) []any {
	decoded, ok := impl.DecodeHeader(form)
	found, isFound := impl.MessageOf(h, at)
	created, first, createdCode := impl.CreateHeader(p, h)
	read, readCode := impl.ReadHeader(p, at)
	written, writtenCode := impl.WriteHeader(p, at, h)
	freed, freedCode := impl.FreeHeader(p, at)
	blocks, blocksCode := impl.HeaderBlocks(p, at)
	return []any{impl.ValidHeader(h), impl.SameHeader(h, decoded), impl.EncodeHeader(h), decoded, ok, found, isFound, created, first, createdCode, read, readCode, written, writtenCode, freed, freedCode, blocks, blocksCode}
}

func TestP1HeadersReturnForAllArguments(t *testing.T) {
	numbers, texts := oddNumbers(), oddStrings()
	pagers := append(badPagers(), fullPager(), chainedStore(t, 150, func(pages []impl.Page) {}), chainedStore(t, 180, func(pages []impl.Page) {}))
	headers := append(badHeaders(), goodHeaders()...)
	for i, at := range numbers {
		h := headers[i*7%len(headers)]
		bad := headerOf(numbers[i*3%len(numbers)], numbers[i*11%len(numbers)], message(at, numbers[i*5%len(numbers)], texts[i%len(texts)]))
		form := strings.Repeat(texts[i*13%len(texts)], i*37%500)
		for _, p := range append(pagers[len(pagers)-3:], pagers[i*5%len(pagers)]) {
			checkShown(t, "second call", shown(headerResults(roomyPager(p), at, roomyHeader(h), form)...), shown(headerResults(p, at, h, form)...))
			checkShown(t, "second call", shown(headerResults(roomyPager(p), 20, roomyHeader(bad), form)...), shown(headerResults(p, 20, bad, form)...))
		}
	}
}

func TestP1HeadersAreNotModified(t *testing.T) {
	m := newTypeMaker(105)
	for range 150 {
		p := chainedStore(t, 150, func(pages []impl.Page) {})
		p.Logged = m.drawPages(5, 15, 19)
		p.Logged = slices.DeleteFunc(p.Logged, func(page impl.Page) bool { return page.Block == 17 })
		p.Dirty = m.drawPages(4, 26, 38)
		p = roomyPager(p)
		h := roomyHeader(m.drawHeader(200))
		form := formOf(m.drawHeader(200))
		at := []int64{20, 20, 17, 25}[m.IntN(4)]
		before := shown(widePager(p), wideHeader(h))
		results := headerResults(p, at, h, form)
		checkNew(t, "results", []any{p, h}, results...)
		first := shown(results...)
		second := shown(headerResults(p, at, h, form)...)
		checkShown(t, "the arguments after the calls", shown(widePager(p), wideHeader(h)), before)
		checkShown(t, "second call", second, first)
	}
}
