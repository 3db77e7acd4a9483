package tests

import (
	"slices"
	"strings"
	"testing"

	"loop.example/g00904/impl"
)

// setOf returns the dataset of a text with a type, a dataspace, chunk dimensions,
// a pipeline and the digits of the fill value, such as u2 (4/*,3) 2,2 run?+sum 0900.
func setOf(t *testing.T, text string) impl.Dataset {
	t.Helper()
	words := strings.Fields(text)
	extent, isSpace := impl.ReadSpace(words[1])
	filters, isPipeline := impl.ReadPipeline(words[3])
	fill, isHex := impl.ReadHex(words[4])
	d := impl.Dataset{Type: mustType(t, words[0]), Space: extent, Chunk: listOf(strings.Trim(words[2], "-")), Filters: filters, Fill: fill}
	if !isSpace || !isPipeline || !isHex {
		t.Fatalf("no dataset: %s", text)
	}
	return d
}

func volume(chunk []int64) int64 {
	return int64(len(rowMajor(chunk)))
}

// isSet tells what impl.ValidDataset should tell of a dataset with a valid type.
func isSet(d impl.Dataset) bool {
	return len(impl.EncodeType(d.Type)) <= 200 && isSpace(d.Space) && isDivision(d.Space.Dims, d.Chunk) && volume(d.Chunk)*sizeOf(d.Type) <= 512 &&
		isPipeline(d.Filters) && isElementOf(d.Type, d.Fill) && isBetween(0, d.Index, 255)
}

// areElements reports whether data consists of so many elements of a valid type.
func areElements(of impl.Type, data string, count int64) bool {
	size := sizeOf(of)
	if int64(len(data)) != count*size {
		return false
	}
	for ; data != ""; data = data[size:] {
		if !isElementOf(of, data[:size]) {
			return false
		}
	}
	return true
}

// isConvertible reports whether valid types are convertible.
func isConvertible(from, to impl.Type) bool {
	isNumber := func(of impl.Type) bool { return of.Kind == impl.TyInt || of.Kind == impl.TyEnum }
	switch {
	case isNumber(from) || isNumber(to):
		return isNumber(from) && isNumber(to)
	case from.Kind != to.Kind:
		return false
	case from.Kind == impl.TyArray:
		return from.Count == to.Count && isConvertible(from.Base[0], to.Base[0])
	}
	for _, f := range to.Members {
		for _, old := range from.Members {
			if f.Name == old.Name && !isConvertible(old.Type, f.Type) {
				return false
			}
		}
	}
	return true
}

// convertedData converts data of a type to another one, to which it is convertible.
func convertedData(from, to impl.Type, data string) (string, int64) {
	converted := ""
	for size := sizeOf(from); data != ""; data = data[size:] {
		b, ok := convertElementOf(from, to, data[:size], false)
		if !ok {
			return "", impl.ErrConvert
		}
		converted += b
	}
	return converted, impl.OK
}

// formsOfSet returns the messages that describe a dataset.
func formsOfSet(d impl.Dataset) []impl.Message {
	_, extent := formsOfSpace(d.Space)
	layout := []byte{byte(len(d.Chunk))}
	for _, n := range d.Chunk {
		layout = append(layout, byte(n))
	}
	layout = append(layout, byte(d.Index), byte(d.Index/256))
	return []impl.Message{message(impl.MsType, 0, impl.EncodeType(d.Type)), message(impl.MsSpace, 0, extent), message(impl.MsLayout, 0, string(layout)), message(impl.MsFilters, 0, formOfPipeline(d.Filters)), message(impl.MsFill, 0, d.Fill)}
}

// setFrom returns the dataset that messages describe.
func setFrom(messages []impl.Message) (impl.Dataset, bool) {
	data := map[int64]string{}
	for _, m := range messages {
		if _, isSecond := data[m.Kind]; m.Kind <= impl.MsFill && (isSecond || m.Flags != 0) {
			return impl.Dataset{}, false
		}
		data[m.Kind] = m.Data
	}
	layout := data[impl.MsLayout]
	if len(data[impl.MsSpace]) == 0 || len(layout) < 3 || len(layout) != int(layout[0])+3 {
		return impl.Dataset{}, false
	}
	d := impl.Dataset{Fill: data[impl.MsFill], Index: int64(layout[len(layout)-2]) + 256*int64(layout[len(layout)-1])}
	for _, n := range []byte(layout[1 : len(layout)-2]) {
		d.Chunk = append(d.Chunk, int64(n))
	}
	var isType, isForm bool
	d.Type, isType = impl.DecodeType(data[impl.MsType])
	d.Filters, isForm = pipelineFrom(data[impl.MsFilters])
	for i, n := range []byte(data[impl.MsSpace][1:]) {
		switch {
		case i%2 == 0:
			d.Space.Dims = append(d.Space.Dims, int64(n))
		case n == 255:
			d.Space.Max = append(d.Space.Max, -1)
		default:
			d.Space.Max = append(d.Space.Max, int64(n))
		}
	}
	ok := isType && isForm && int(data[impl.MsSpace][0]) == len(d.Space.Dims) && isSet(d) && d.Index != 0
	if !ok {
		return impl.Dataset{}, false
	}
	return d, true
}

// openSet is a dataset that the steps of the document change.
type openSet struct {
	impl.Dataset
	p      impl.Pager
	at     int64
	header impl.Header
}

// setAt returns the dataset that an object describes, or the first of the errors
// of all functions of an object.
func setAt(p impl.Pager, at int64) (*openSet, int64) {
	_, h, code := objectIn(p, at)
	switch {
	case code != impl.OK:
		return &openSet{}, code
	case h.Kind != impl.ObDataset:
		return &openSet{}, impl.ErrType
	}
	d, ok := setFrom(h.Messages)
	if !ok {
		return &openSet{}, impl.ErrCorrupt
	}
	return &openSet{d, p, at, h}, impl.OK
}

// take takes over the pager of a step that has not failed.
func (x *openSet) take(p impl.Pager, code int64) int64 {
	if code == impl.OK {
		x.p = p
	}
	return code
}

// hasKey reports whether some element of the dataset is in the chunk.
func (x *openSet) hasKey(key int64) bool {
	return slices.Contains(tileKeys(tilesOf(x.Space.Dims, x.Chunk)), key)
}

func (x *openSet) isChunkData(data string) bool {
	return areElements(x.Type, data, volume(x.Chunk))
}

// entry returns what the index has for a key.
func (x *openSet) entry(key int64) (c impl.Chunk, found bool, code int64) {
	list, code := indexIn(x.p, x.Index)
	if code != impl.OK {
		return impl.Chunk{}, false, code
	}
	for _, e := range list.chunks() {
		if e.Key == key {
			return e, true, impl.OK
		}
	}
	return impl.Chunk{}, false, impl.OK
}

// load returns the elements of a chunk that exists.
func (x *openSet) load(key int64) (data string, found bool, code int64) {
	c, found, code := x.entry(key)
	switch {
	case !found:
		return "", false, code
	case !areDataBlocks(x.p, c.At, blocksOf(c.Size)) || c.Size > 1100 || !isMask(x.Filters, c.Mask):
		return "", false, impl.ErrCorrupt
	}
	stored, _ := bytesIn(x.p, c.At, c.Size)
	data, code = undoneByAll(x.Filters, c.Mask, stored)
	switch {
	case code != impl.OK:
		return "", false, code
	case !x.isChunkData(data):
		return "", false, impl.ErrCorrupt
	}
	return data, true, impl.OK
}

// loadOrFill returns the elements of a chunk, which are the fill value if it does not exist.
func (x *openSet) loadOrFill(key int64) ([]byte, int64) {
	data, found, code := x.load(key)
	if !found && code == impl.OK {
		data = strings.Repeat(x.Fill, int(volume(x.Chunk)))
	}
	return []byte(data), code
}

// releaseRun releases the run of an entry.
func (x *openSet) releaseRun(c impl.Chunk) int64 {
	code := x.take(releasedIn(x.p, c.At, blocksOf(c.Size)))
	if code == impl.ErrRange || code == impl.ErrState {
		return impl.ErrCorrupt
	}
	return code
}

// store writes the elements of a chunk.
func (x *openSet) store(key int64, data string) int64 {
	stored, mask, code := appliedByAll(x.Filters, data)
	if code != impl.OK {
		return code
	}
	c, found, code := x.entry(key)
	if code != impl.OK {
		return code
	}
	blocks := blocksOf(int64(len(stored)))
	if !found || blocksOf(c.Size) != blocks {
		if found {
			if code = x.releaseRun(c); code != impl.OK {
				return code
			}
		}
		p, at, code := allocatedIn(x.p, blocks)
		if code != impl.OK {
			return code
		}
		x.p, c.At = p, at
	} else if !areDataBlocks(x.p, c.At, blocks) {
		return impl.ErrCorrupt
	}
	if code = x.take(storedIn(x.p, c.At, stored)); code != impl.OK {
		return code
	}
	p, root, code := insertedIn(x.p, x.Index, chunkAt(key, c.At, int64(len(stored)), mask))
	if code != impl.OK {
		return code
	}
	x.p = p
	if root == x.Index {
		return impl.OK
	}
	x.Index = root
	return x.writeHeader()
}

// writeHeader writes the header that was read, with the layout and the dataspace
// that the dataset has now.
func (x *openSet) writeHeader() int64 {
	h := headerOf(x.header.Kind, x.header.Refs)
	forms := formsOfSet(x.Dataset)
	for _, m := range x.header.Messages {
		switch m.Kind {
		case impl.MsSpace:
			m = forms[1]
		case impl.MsLayout:
			m = forms[2]
		}
		h.Messages = append(h.Messages, m)
	}
	return x.take(rewrittenIn(x.p, x.at, h))
}

// result returns the pager if there was no error.
func (x *openSet) result(code int64) (impl.Pager, int64) {
	if code != impl.OK {
		return impl.Pager{}, code
	}
	return x.p, impl.OK
}

// chunkReadIn tells what impl.ReadChunk should return.
func chunkReadIn(p impl.Pager, d impl.Dataset, key int64) (string, bool, int64) {
	x := &openSet{Dataset: d, p: p}
	switch {
	case !isPager(p) || !impl.ValidType(d.Type) || !isSet(d):
		return "", false, impl.ErrInvalid
	case !x.hasKey(key):
		return "", false, impl.ErrRange
	}
	return x.load(key)
}

// chunkWrittenIn tells what impl.WriteChunk should return.
func chunkWrittenIn(p impl.Pager, at, key int64, data string) (impl.Pager, int64) {
	x, code := setAt(p, at)
	switch {
	case code != impl.OK:
	case !x.hasKey(key):
		code = impl.ErrRange
	case !x.isChunkData(data):
		code = impl.ErrType
	default:
		code = x.store(key, data)
	}
	return x.result(code)
}

// picked returns the elements that a selection selects, with their chunks, and
// OK if the selection is valid for the dataset.
func (x *openSet) picked(s impl.Selection) ([]tile, int64) {
	if !isFormed(s) {
		return nil, impl.ErrRange
	}
	selected, ok := selectedOf(x.Space.Dims, s)
	if !ok {
		return nil, impl.ErrRange
	}
	all := tilesOf(x.Space.Dims, x.Chunk)
	var list []tile
	for _, at := range selected {
		e, _ := tileAt(all, at)
		list = append(list, e)
	}
	return list, impl.OK
}

// dataReadIn tells what impl.ReadData should return.
func dataReadIn(p impl.Pager, at int64, s impl.Selection, of impl.Type) (string, int64) {
	if !impl.ValidType(of) {
		return "", impl.ErrInvalid
	}
	x, code := setAt(p, at)
	if code != impl.OK {
		return "", code
	}
	list, code := x.picked(s)
	switch {
	case code != impl.OK:
		return "", code
	case !isConvertible(x.Type, of):
		return "", impl.ErrType
	}
	chunks := map[int64][]byte{}
	for _, key := range tileKeys(list) {
		if chunks[key], code = x.loadOrFill(key); code != impl.OK {
			return "", code
		}
	}
	data, size := "", sizeOf(x.Type)
	for _, e := range list {
		data += string(chunks[e.key][e.number*size:][:size])
	}
	return convertedData(x.Type, of, data)
}

// dataWrittenIn tells what impl.WriteData should return.
func dataWrittenIn(p impl.Pager, at int64, s impl.Selection, of impl.Type, data string) (impl.Pager, int64) {
	if !impl.ValidType(of) {
		return impl.Pager{}, impl.ErrInvalid
	}
	x, code := setAt(p, at)
	if code != impl.OK {
		return impl.Pager{}, code
	}
	list, code := x.picked(s)
	switch {
	case code != impl.OK:
		return impl.Pager{}, code
	case !isConvertible(of, x.Type) || !areElements(of, data, int64(len(list))):
		return impl.Pager{}, impl.ErrType
	}
	if data, code = convertedData(of, x.Type, data); code != impl.OK {
		return impl.Pager{}, code
	}
	size := sizeOf(x.Type)
	for _, key := range tileKeys(list) {
		elements, code := x.loadOrFill(key)
		if code != impl.OK {
			return impl.Pager{}, code
		}
		for i, e := range list {
			if e.key == key {
				copy(elements[e.number*size:], data[int64(i)*size:][:size])
			}
		}
		if code = x.store(key, string(elements)); code != impl.OK {
			return impl.Pager{}, code
		}
	}
	return x.p, impl.OK
}

// arrayReadIn tells what impl.ReadArray should return.
func arrayReadIn(p impl.Pager, at int64) (impl.Array, int64) {
	x, code := setAt(p, at)
	if code != impl.OK {
		return impl.Array{}, code
	}
	data, code := dataReadIn(p, at, selectAll, x.Type)
	if code != impl.OK {
		return impl.Array{}, code
	}
	return arrayIn(x.Type, x.Space.Dims, data), impl.OK
}

// numbersByKey returns the numbers of the elements in each chunk.
func numbersByKey(dims, chunk []int64) map[int64]map[int64]bool {
	numbers := map[int64]map[int64]bool{}
	for _, e := range tilesOf(dims, chunk) {
		if numbers[e.key] == nil {
			numbers[e.key] = map[int64]bool{}
		}
		numbers[e.key][e.number] = true
	}
	return numbers
}

// setResizedIn tells what impl.ResizeDataset should return.
func setResizedIn(p impl.Pager, at int64, dims []int64) (impl.Pager, int64) {
	x, code := setAt(p, at)
	switch {
	case code != impl.OK:
		return impl.Pager{}, code
	case !isDims(dims):
		return impl.Pager{}, impl.ErrInvalid
	case !isSpace(space(dims, x.Space.Max)) || !isDivision(dims, x.Chunk):
		return impl.Pager{}, impl.ErrRange
	}
	before, after := numbersByKey(x.Space.Dims, x.Chunk), numbersByKey(dims, x.Chunk)
	for _, key := range tileKeys(tilesOf(x.Space.Dims, x.Chunk)) {
		if after[key] == nil {
			if code = x.remove(key); code != impl.OK {
				return impl.Pager{}, code
			}
		}
	}
	list, code := indexIn(x.p, x.Index)
	if code != impl.OK {
		return impl.Pager{}, code
	}
	for _, c := range list.chunks() {
		if code = x.settle(c.Key, before[c.Key], after[c.Key]); code != impl.OK {
			return impl.Pager{}, code
		}
	}
	old, root := x.Space.Dims, int64(x.header.Messages[x.layoutIndex()].Data[len(x.Chunk)+1])
	x.Space.Dims = dims
	if !slices.Equal(old, dims) || root != x.Index {
		code = x.writeHeader()
	}
	return x.result(code)
}

func (x *openSet) layoutIndex() int {
	return slices.IndexFunc(x.header.Messages, func(m impl.Message) bool { return m.Kind == impl.MsLayout })
}

// remove removes a chunk, if the index has it, and releases its run.
func (x *openSet) remove(key int64) int64 {
	c, found, code := x.entry(key)
	if code != impl.OK || !found {
		return code
	}
	p, root, _, code := deletedIn(x.p, x.Index, key)
	if code != impl.OK {
		return code
	}
	x.p, x.Index = p, root
	return x.releaseRun(c)
}

// settle sets the elements of a chunk that exist before or after a change of the
// dimensions only to the fill value.
func (x *openSet) settle(key int64, before, after map[int64]bool) int64 {
	var lost, others []int64
	for number := range volume(x.Chunk) {
		switch {
		case before[number] && !after[number]:
			lost = append(lost, number)
		case !before[number] && after[number]:
			others = append(others, number)
		}
	}
	if len(lost)+len(others) == 0 {
		return impl.OK
	}
	elements, code := x.loadOrFill(key)
	if code != impl.OK {
		return code
	}
	size := sizeOf(x.Type)
	mustWrite := len(lost) > 0
	for _, number := range others {
		mustWrite = mustWrite || string(elements[number*size:][:size]) != x.Fill
	}
	if !mustWrite {
		return impl.OK
	}
	for _, number := range append(lost, others...) {
		copy(elements[number*size:], x.Fill)
	}
	return x.store(key, string(elements))
}

// setFreedIn tells what impl.FreeDataset should return.
func setFreedIn(p impl.Pager, at int64) (impl.Pager, int64) {
	x, code := setAt(p, at)
	if code != impl.OK {
		return impl.Pager{}, code
	}
	list, code := indexIn(p, x.Index)
	if code != impl.OK {
		return impl.Pager{}, code
	}
	for _, c := range list.chunks() {
		if code = x.releaseRun(c); code != impl.OK {
			return impl.Pager{}, code
		}
	}
	if code = x.take(withoutIndex(x.p, x.Index)); code == impl.OK {
		code = x.take(withoutObject(x.p, at))
	}
	return x.result(code)
}

// setCreatedIn tells what impl.CreateDataset should return.
func setCreatedIn(p impl.Pager, parent int64, name string, d impl.Dataset) (impl.Pager, int64, int64) {
	if !isPager(p) || !impl.ValidType(d.Type) || !isSet(d) || d.Index != 0 || !nameForm.MatchString(name) {
		return impl.Pager{}, 0, impl.ErrInvalid
	}
	return objectCreatedIn(p, parent, name, func(p impl.Pager) (impl.Pager, int64, int64) {
		p, root, code := newIn(p)
		if code != impl.OK {
			return impl.Pager{}, 0, code
		}
		d.Index = root
		return createdIn(p, headerOf(impl.ObDataset, 1, formsOfSet(d)...))
	})
}

// blocksOfSet returns the blocks of the index of a dataset, and of its runs; none
// for another object.
func blocksOfSet(p impl.Pager, at int64) []int64 {
	x, code := setAt(p, at)
	if code != impl.OK {
		return nil
	}
	list, code := indexIn(p, x.Index)
	if code != impl.OK {
		return nil
	}
	blocks := list.preorder(x.Index)
	for _, c := range list.chunks() {
		blocks = append(blocks, numbersFrom(c.At, c.At+blocksOf(c.Size)-1)...)
	}
	return blocks
}

func checkCreateDataset(t *testing.T, what string, p impl.Pager, parent int64, name string, d impl.Dataset) (impl.Pager, int64, int64) {
	t.Helper()
	what = shown(what, "CreateDataset", parent, name, d)
	want, wantAt, wantCode := setCreatedIn(p, parent, name, d)
	after, at, code := impl.CreateDataset(p, parent, name, d)
	checkPager(t, what, after, code, want, wantCode, p, d)
	check(t, what, at, wantAt)
	return after, at, code
}

func checkOpenDataset(t *testing.T, what string, p impl.Pager, at int64) (impl.Dataset, int64) {
	t.Helper()
	x, wantCode := setAt(p, at)
	d, code := impl.OpenDataset(p, at)
	checkValues(t, shown(what, "OpenDataset", at), []any{d, code}, []any{x.Dataset, wantCode})
	checkNew(t, what, []any{p}, d)
	return d, code
}

func checkReadChunk(t *testing.T, what string, p impl.Pager, d impl.Dataset, key int64) (string, bool, int64) {
	t.Helper()
	want, wantFound, wantCode := chunkReadIn(p, d, key)
	data, found, code := impl.ReadChunk(p, d, key)
	if data != want || found != wantFound || code != wantCode {
		t.Errorf("%s: ReadChunk %d: got %q, %v and %d, want %q, %v and %d", what, key, data, found, code, want, wantFound, wantCode)
	}
	return data, found, code
}

func checkWriteChunk(t *testing.T, what string, p impl.Pager, at, key int64, data string) (impl.Pager, int64) {
	t.Helper()
	want, wantCode := chunkWrittenIn(p, at, key, data)
	after, code := impl.WriteChunk(p, at, key, data)
	checkPager(t, shown(what, "WriteChunk", at, key, len(data)), after, code, want, wantCode, p)
	return after, code
}

func checkReadData(t *testing.T, what string, p impl.Pager, at int64, s impl.Selection, of impl.Type) (string, int64) {
	t.Helper()
	want, wantCode := dataReadIn(p, at, s, of)
	data, code := impl.ReadData(p, at, s, of)
	checkBytes(t, shown(what, "ReadData", at, s), data, code, want, wantCode)
	return data, code
}

func checkWriteData(t *testing.T, what string, p impl.Pager, at int64, s impl.Selection, of impl.Type, data string) (impl.Pager, int64) {
	t.Helper()
	want, wantCode := dataWrittenIn(p, at, s, of, data)
	after, code := impl.WriteData(p, at, s, of, data)
	checkPager(t, shown(what, "WriteData", at, s, len(data)), after, code, want, wantCode, p)
	return after, code
}

func checkResizeDataset(t *testing.T, what string, p impl.Pager, at int64, dims []int64) (impl.Pager, int64) {
	t.Helper()
	want, wantCode := setResizedIn(p, at, dims)
	after, code := impl.ResizeDataset(p, at, dims)
	checkPager(t, shown(what, "ResizeDataset", at, dims), after, code, want, wantCode, p)
	return after, code
}

func checkReadArray(t *testing.T, what string, p impl.Pager, at int64) (impl.Array, int64) {
	t.Helper()
	want, wantCode := arrayReadIn(p, at)
	a, code := impl.ReadArray(p, at)
	checkValues(t, shown(what, "ReadArray", at), []any{a, code}, []any{want, wantCode})
	checkNew(t, what, []any{p}, a)
	return a, code
}

func checkFreeDataset(t *testing.T, what string, p impl.Pager, at int64) (impl.Pager, int64) {
	t.Helper()
	want, wantCode := setFreedIn(p, at)
	after, code := impl.FreeDataset(p, at)
	checkPager(t, shown(what, "FreeDataset", at), after, code, want, wantCode, p)
	return after, code
}

// setCodes returns the codes of all functions of an object, with arguments that
// are right for a dataset of bytes with the dimensions 4 and 3 and chunks of 4.
func setCodes(t *testing.T, what string, p impl.Pager, at int64) []int64 {
	t.Helper()
	byteType := intType(1, false, false)
	_, code := checkOpenDataset(t, what, p, at)
	codes := []int64{code}
	_, code = checkWriteChunk(t, what, p, at, 16, "wxyz")
	codes = append(codes, code)
	_, code = checkReadData(t, what, p, at, pointsOf([]int64{2, 1}), byteType)
	codes = append(codes, code)
	_, code = checkWriteData(t, what, p, at, pointsOf([]int64{2, 1}), byteType, "v")
	codes = append(codes, code)
	_, code = checkResizeDataset(t, what, p, at, []int64{3, 3})
	codes = append(codes, code)
	_, code = checkReadArray(t, what, p, at)
	codes = append(codes, code)
	_, code = checkFreeDataset(t, what, p, at)
	return append(codes, code)
}

// rooted returns a store of so many blocks with an empty root group.
func rooted(t *testing.T, blocks, log int64) (impl.Pager, int64) {
	t.Helper()
	p, code := impl.FormatGroups(emptyStore(t, blocks, log))
	check(t, "FormatGroups", code, int64(impl.OK))
	root, _ := impl.RootOf(p)
	return p, root
}

// storeOfSet returns a store of 256 blocks, 64 of them for the log, with a dataset
// in its root group, into which some chunks have been written, in a committed
// transaction; the object of the dataset; and the dataset.
func storeOfSet(t *testing.T, text string, chunks map[int64]string) (impl.Pager, int64, impl.Dataset) {
	t.Helper()
	p, root := rooted(t, 256, 64)
	p, at, code := checkCreateDataset(t, "store", p, root, "set", setOf(t, text))
	check(t, "CreateDataset", code, int64(impl.OK))
	for key := range int64(4096) {
		if data, ok := chunks[key]; ok {
			p, code = checkWriteChunk(t, "store", p, at, key, data)
			check(t, "WriteChunk", code, int64(impl.OK))
		}
	}
	p, code = impl.Commit(p)
	check(t, "Commit", code, int64(impl.OK))
	d, code := checkOpenDataset(t, "store", p, at)
	check(t, "OpenDataset", code, int64(impl.OK))
	return p, at, d
}

// withEntry returns the pager with another entry in the index of a dataset, which
// must not change its root, and with what the blocks of its run contain.
func withEntry(t *testing.T, p impl.Pager, d impl.Dataset, c impl.Chunk, stored string) impl.Pager {
	t.Helper()
	p, root, code := impl.InsertChunk(p, d.Index, c)
	check(t, "InsertChunk", []int64{root, code}, []int64{d.Index, impl.OK})
	if stored != "" {
		p, code = impl.WriteRun(p, c.At, stored)
		check(t, "WriteRun", code, int64(impl.OK))
	}
	return p
}

// entriesOf returns the entries of the index of a dataset by their keys.
func entriesOf(t *testing.T, p impl.Pager, at int64) map[int64]impl.Chunk {
	t.Helper()
	d, code := impl.OpenDataset(p, at)
	check(t, "OpenDataset", code, int64(impl.OK))
	chunks, code := impl.ChunksOf(p, d.Index)
	check(t, "ChunksOf", code, int64(impl.OK))
	return modelOf(chunks)
}

func roomySet(d impl.Dataset) impl.Dataset {
	d.Type, d.Space, d.Chunk, d.Filters = roomy(d.Type), roomySpace(d.Space), roomyList(d.Chunk), roomyFilters(d.Filters)
	return d
}

func wideSet(d impl.Dataset) impl.Dataset {
	d.Type, d.Space, d.Chunk, d.Filters = widened(d.Type), wideSpace(d.Space), wideList(d.Chunk), wideFilters(d.Filters)
	return d
}

// drawSet returns a valid dataset, the dimensions of which may change.
func (m typeMaker) drawSet() impl.Dataset {
	for {
		d := impl.Dataset{Type: m.draw(3, 24), Space: m.drawSpace(), Filters: m.drawPipeline()}
		if m.IntN(2) == 0 {
			d.Type = m.draw(2, 4)
		}
		d.Chunk = m.drawChunk(d.Space.Dims)
		d.Fill, _ = m.drawElement(d.Type)
		if isSet(d) {
			return d
		}
	}
}

// drawData returns so many elements, often equal ones.
func (m typeMaker) drawData(of impl.Type, count int64) string {
	data := ""
	b, _ := m.drawElement(of)
	varies := m.IntN(3) > 0
	for range count {
		if varies && m.IntN(3) > 0 {
			b, _ = m.drawElement(of)
		}
		data += b
	}
	return data
}
