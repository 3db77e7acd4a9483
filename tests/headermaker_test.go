package tests

import (
	"slices"
	"strings"
	"testing"

	"loop.example/g00904/impl"
)

func message(kind, flags int64, data string) impl.Message {
	return impl.Message{Kind: kind, Flags: flags, Data: data}
}

func headerOf(kind, refs int64, messages ...impl.Message) impl.Header {
	return impl.Header{Kind: kind, Refs: refs, Messages: messages}
}

// isHeader tells what impl.ValidHeader should tell.
func isHeader(h impl.Header) bool {
	ok := isBetween(1, h.Kind, 3) && isBetween(0, h.Refs, 1000) && len(h.Messages) <= 24
	for _, m := range h.Messages {
		ok = ok && isBetween(1, m.Kind, 9) && isBetween(0, m.Flags, 255) && len(m.Data) <= 200
	}
	return ok
}

// formOf tells what impl.EncodeHeader should return for a valid header.
func formOf(h impl.Header) string {
	form := []byte{byte(h.Kind), byte(h.Refs % 256), byte(h.Refs / 256), byte(len(h.Messages))}
	for _, m := range h.Messages {
		form = append(form, byte(m.Kind), byte(m.Flags), byte(len(m.Data)))
		form = append(form, m.Data...)
	}
	return string(form)
}

// headerFrom tells what impl.DecodeHeader should return.
func headerFrom(s string) (impl.Header, bool) {
	if len(s) < 4 {
		return impl.Header{}, false
	}
	h := headerOf(int64(s[0]), int64(s[1])+256*int64(s[2]))
	count, s := int(s[3]), s[4:]
	for range count {
		if len(s) < 3 || len(s) < 3+int(s[2]) {
			return impl.Header{}, false
		}
		end := 3 + int(s[2])
		h.Messages = append(h.Messages, message(int64(s[0]), int64(s[1]), s[3:end]))
		s = s[end:]
	}
	if s != "" || !isHeader(h) {
		return impl.Header{}, false
	}
	return h, true
}

// linkBlock returns a block of a chain.
func linkBlock(next, n int, part string) string {
	head := string([]byte{byte(next), byte(next / 256), byte(n), byte(n / 256)})
	return head + part + strings.Repeat("\x00", 60-len(part))
}

// chainOf returns the pages of the chain of a binary form, in the order of the chain.
func chainOf(form string, blocks []int64) []impl.Page {
	var list []impl.Page
	for i, k := range blocks {
		part, next := form, 0
		if i < len(blocks)-1 {
			part, form, next = form[:60], form[60:], int(blocks[i+1])
		}
		list = append(list, pageAt(k, linkBlock(next, len(part), part)))
	}
	return list
}

// objectIn tells what impl.HeaderBlocks and impl.ReadHeader should return.
func objectIn(p impl.Pager, at int64) ([]int64, impl.Header, int64) {
	if !isPager(p) {
		return nil, impl.Header{}, impl.ErrInvalid
	}
	var blocks []int64
	form := ""
	for next := at; next != 0 || len(blocks) == 0; {
		if !isDataBlock(p, next) || !isUsed(p, next) || slices.Contains(blocks, next) {
			return nil, impl.Header{}, impl.ErrCorrupt
		}
		blocks = append(blocks, next)
		data := inDirty(p, next)
		next = int64(data[0]) + 256*int64(data[1])
		n := int(data[2]) + 256*int(data[3])
		if n < 1 || n > 60 || next != 0 && n < 60 || strings.Trim(data[4+n:], "\x00") != "" {
			return nil, impl.Header{}, impl.ErrCorrupt
		}
		form += data[4 : 4+n]
	}
	h, ok := headerFrom(form)
	if !ok {
		return nil, impl.Header{}, impl.ErrCorrupt
	}
	return blocks, h, impl.OK
}

// chainBlocks returns how many blocks the chain of a header has.
func chainBlocks(h impl.Header) int {
	return (len(formOf(h)) + 59) / 60
}

// chainedIn writes a chain block by block, after it has allocated those that are missing.
func chainedIn(p impl.Pager, blocks []int64, h impl.Header) (impl.Pager, []int64, int64) {
	for len(blocks) < chainBlocks(h) {
		after, at, code := allocatedIn(p, 1)
		if code != impl.OK {
			return impl.Pager{}, nil, code
		}
		p, blocks = after, slices.Concat(blocks, []int64{at})
	}
	for _, page := range chainOf(formOf(h), blocks) {
		var code int64
		if p, code = setIn(p, page.Block, page.Data); code != impl.OK {
			return impl.Pager{}, nil, code
		}
	}
	return p, blocks, impl.OK
}

// createdIn tells what impl.CreateHeader should return.
func createdIn(p impl.Pager, h impl.Header) (impl.Pager, int64, int64) {
	if !isPager(p) || !isHeader(h) {
		return impl.Pager{}, 0, impl.ErrInvalid
	}
	after, blocks, code := chainedIn(p, nil, h)
	if code != impl.OK {
		return impl.Pager{}, 0, code
	}
	return after, blocks[0], impl.OK
}

// rewrittenIn tells what impl.WriteHeader should return.
func rewrittenIn(p impl.Pager, at int64, h impl.Header) (impl.Pager, int64) {
	if !isPager(p) || !isHeader(h) {
		return impl.Pager{}, impl.ErrInvalid
	}
	blocks, _, code := objectIn(p, at)
	for code == impl.OK && len(blocks) > chainBlocks(h) {
		p, code = releasedIn(p, blocks[len(blocks)-1], 1)
		blocks = blocks[:len(blocks)-1]
	}
	if code != impl.OK {
		return impl.Pager{}, code
	}
	after, _, code := chainedIn(p, blocks, h)
	return after, code
}

// withoutObject tells what impl.FreeHeader should return.
func withoutObject(p impl.Pager, at int64) (impl.Pager, int64) {
	blocks, _, code := objectIn(p, at)
	for _, k := range blocks {
		if code == impl.OK {
			p, code = releasedIn(p, k, 1)
		}
	}
	if code != impl.OK {
		return impl.Pager{}, code
	}
	return p, impl.OK
}

func checkCreate(t *testing.T, what string, p impl.Pager, h impl.Header) (impl.Pager, int64, int64) {
	t.Helper()
	what = shown(what, "CreateHeader")
	want, wantAt, wantCode := createdIn(p, h)
	after, at, code := impl.CreateHeader(p, h)
	checkPager(t, what, after, code, want, wantCode, p, h)
	check(t, what, at, wantAt)
	return after, at, code
}

func checkRewrite(t *testing.T, what string, p impl.Pager, at int64, h impl.Header) (impl.Pager, int64) {
	t.Helper()
	want, wantCode := rewrittenIn(p, at, h)
	after, code := impl.WriteHeader(p, at, h)
	checkPager(t, shown(what, "WriteHeader", at), after, code, want, wantCode, p, h)
	return after, code
}

func checkFree(t *testing.T, what string, p impl.Pager, at int64) (impl.Pager, int64) {
	t.Helper()
	want, wantCode := withoutObject(p, at)
	after, code := impl.FreeHeader(p, at)
	checkPager(t, shown(what, "FreeHeader", at), after, code, want, wantCode, p)
	return after, code
}

// checkObject checks what is read of a number, which need not be an object.
func checkObject(t *testing.T, what string, p impl.Pager, at int64) (impl.Header, []int64, int64) {
	t.Helper()
	wantBlocks, want, wantCode := objectIn(p, at)
	h, code := impl.ReadHeader(p, at)
	blocks, blocksCode := impl.HeaderBlocks(p, at)
	checkValues(t, shown(what, "object", at), []any{h, code, blocks, blocksCode}, []any{want, wantCode, wantBlocks, wantCode})
	checkNew(t, what, []any{p}, h, blocks)
	return h, blocks, code
}

// drawHeader returns a valid header with messages of at most so many bytes.
func (m typeMaker) drawHeader(most int64) impl.Header {
	h := headerOf(m.between(1, 3), []int64{0, 1, 2, 255, 256, 1000, m.between(0, 1000)}[m.IntN(7)])
	for range []int{0, 1, 2, 24, m.IntN(25)}[m.IntN(5)] {
		size := []int{0, 1, 59, 60, 61, 200, m.IntN(201)}[m.IntN(7)]
		data := strings.Repeat(m.drawBlock(), 4)[:min(size, int(most))]
		h.Messages = append(h.Messages, message(m.between(1, 9), []int64{0, 255, m.between(0, 255)}[m.IntN(3)], data))
	}
	return h
}

// longHeader returns a header whose binary form has so many bytes, at least 4 but not 5 or 6.
func longHeader(size int) impl.Header {
	h := headerOf(impl.ObDataset, 7)
	for left := size - 4; left > 0; {
		part := min(left, 203)
		// The next message needs 3 bytes, too.
		if rest := left - part; rest == 1 || rest == 2 {
			part -= 2
		}
		data := strings.Repeat("abcdefghijklmnopqrstuvw", 10)[len(h.Messages)%23:][:part-3]
		h.Messages = append(h.Messages, message(impl.MsFill, int64(len(h.Messages)), data))
		left -= part
	}
	return h
}

func roomyHeader(h impl.Header) impl.Header {
	h.Messages = append(slices.Clone(h.Messages), message(7, 7, "spare"), message(-1, 0, ""))[:len(h.Messages)]
	return h
}

// wideHeader returns a copy of a header with all that its slice has room for.
func wideHeader(h impl.Header) impl.Header {
	h.Messages = slices.Clone(h.Messages[:cap(h.Messages)])
	return h
}

// onDisk returns the pager of a store, into whose blocks pages have been written
// that are all allocated.
func onDisk(t *testing.T, blocks, log int64, pages ...impl.Page) impl.Pager {
	t.Helper()
	p := emptyStore(t, blocks, log)
	_, area := areaOf(p)
	for _, page := range pages {
		area = withBits(area, true, page.Block)
		p.Disk = withBlocks(p.Disk, page.Block, []string{page.Data})
	}
	return withArea(p, 0, area)
}

// scattered returns a store with some pages, each of which is on the disk, in
// the log, or in the current transaction, as a number from 0 to 26 tells.
func scattered(t *testing.T, blocks, log int64, pages []impl.Page, places int) impl.Pager {
	t.Helper()
	var old []impl.Page
	for _, page := range pages {
		old = append(old, pagesAt("old", page.Block)...)
	}
	p := onDisk(t, blocks, log, old...)
	p.Logged = pagesAt("older", blocks-1)
	for i, page := range pages {
		switch []int{places % 3, places / 3 % 3, places / 9}[i] {
		case 0:
			p.Disk = withBlocks(p.Disk, page.Block, []string{page.Data})
		case 1:
			p.Logged = mergedPages(p.Logged, []impl.Page{page})
		default:
			p.Logged = mergedPages(p.Logged, pagesAt("older", page.Block))
			p.Dirty = mergedPages(p.Dirty, []impl.Page{page})
		}
	}
	return p
}
