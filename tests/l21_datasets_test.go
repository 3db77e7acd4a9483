package tests

import (
	"fmt"
	"maps"
	"math"
	"slices"
	"strings"
	"testing"

	"loop.example/g00904/impl"
)

// longType returns a valid type whose binary form has so many bytes, 185 to 220:
// that of two enumerations, one of which has names of 12 bytes.
func longType(bytes int) impl.Type {
	byteType := intType(1, false, false)
	var long, short []string
	for i := range 6 {
		long = append(long, fmt.Sprintf("abcdefghijk%d", i))
	}
	for i, left := 0, bytes-185; i < 4; i++ {
		part := min(left, 10)
		short = append(short, string(rune('a'+i))+strings.Repeat("_", part))
		left -= part
	}
	return compoundType(2, member("A", 0, enumType(byteType, long, numbersFrom(0, 5))), member("B", 1, enumType(byteType, short, numbersFrom(0, 3))))
}

// checkDataset checks what depends on a dataset only, which need not be valid.
func checkDataset(t *testing.T, what string, d impl.Dataset, want bool) {
	t.Helper()
	what = shown(what, d)
	check(t, what, []bool{impl.ValidDataset(d), impl.ValidType(d.Type) && isSet(d)}, []bool{want, want})
	p, root := rooted(t, 40, 12)
	wantCode := int64(impl.OK)
	if !want || d.Index != 0 {
		wantCode = impl.ErrInvalid
	}
	_, _, code := checkCreateDataset(t, what, p, root, "set", d)
	check(t, what+": CreateDataset", code, wantCode)
	for _, key := range []int64{0, 4096} {
		_, _, code = checkReadChunk(t, what, p, d, key)
		check(t, what+": ReadChunk", code == impl.ErrInvalid, !want)
	}
}

func goodSets(t *testing.T) []impl.Dataset {
	t.Helper()
	var list []impl.Dataset
	for _, text := range []string{
		"u1 () - none 00", "u1 (0) 1 none ff", "u1 (40) 40 none 00", "u1 (16) 1 none 00", "u1 (1/*) 40 none 07", "u2 (4/*,3) 2,2 run?+sum 0900", "i8 (8,8) 8,8 none 0000000000000080", "text(16) (4,4,2) 4,4,2 lz 61000000000000000000000000000000", "u1 (0,40/*,40) 3,3,7 none 00", "u1 (24,25) 2,2 none 00",
		"enum(i1,A=1,B=2) () - none 02", "ref (3,3,3) 3,3,3 shuffle(2)+delta(2)+run?+lz? ffff", "array(4,text(6)) (21) 21 none " + strings.Repeat("616263000000", 4), "record(5,A@1:u2,B@4:u1) (2) 1 sum 0001020003", "text(8) (16,1/40) 1,40 shuffle(24) 6162630000000000", "u1 (16,16) 1,1 none 00", "u1 (4,3/40) 2,2 none 00",
	} {
		list = append(list, setOf(t, text))
	}
	longest := setOf(t, "u2 (4,3) 2,2 none 0000")
	longest.Type = longType(200)
	return append(list, longest)
}

func TestP23ValidDatasets(t *testing.T) {
	for _, d := range goodSets(t) {
		for _, index := range []int64{0, 1, 2, 128, 254, 255} {
			d.Index = index
			checkDataset(t, "good", d, true)
		}
		for _, index := range append([]int64{256, 257, -1, -255, -256, 511, 512, 1 << 32, 1<<32 + 1}, math.MinInt64, math.MaxInt64) {
			d.Index = index
			checkDataset(t, "bad index", d, false)
		}
	}
	for bytes := 185; bytes <= 220; bytes++ {
		of := longType(bytes)
		check(t, shown("a long type", bytes), []any{impl.ValidType(of), len(impl.EncodeType(of))}, []any{true, bytes})
		d := setOf(t, "u2 (4,3) 2,2 none 0000")
		d.Type = of
		checkDataset(t, "a long type", d, bytes <= 200)
	}
	check(t, "the zero Dataset", impl.ValidDataset(impl.Dataset{}), false)
	// A fill value of no bytes is an element of no type.
	checkDataset(t, "no fill value", impl.Dataset{Type: intType(1, false, false)}, false)
}

// endingBadTypes are types that are not valid, without those that contain themselves.
func endingBadTypes() []impl.Type {
	list := badTypes()
	return list[:len(list)-4]
}

// badParts are changes of the dataset text(2) (4,3) 2,2 none 6100 after which it
// is not valid.
func badParts() map[string][]func(d *impl.Dataset) {
	list := map[string][]func(d *impl.Dataset){}
	add := func(what string, change func(d *impl.Dataset)) { list[what] = append(list[what], change) }
	for _, of := range endingBadTypes() {
		add("type", func(d *impl.Dataset) { d.Type = of })
		add("type without a fill value", func(d *impl.Dataset) { d.Type, d.Fill = of, "" })
	}
	for bytes := 201; bytes <= 220; bytes++ {
		add("type", func(d *impl.Dataset) { d.Type, d.Fill = longType(bytes), "\x00\x00" })
	}
	for _, text := range []string{"4:", "4:4", "4,3:4", "4,3:4,3,3", "4,3:3,3", "4,3:4,2", "4,3:41,3", "4,3:-2,3", "4,3:255,3", "41,3:41,3", "25,25:25,25", "4,3,1,1:4,3,1,1", "-4,-3:4,3", "4,3:", ":4,3", "4:4,3", "601:601"} {
		dims, most, _ := strings.Cut(text, ":")
		add("space", func(d *impl.Dataset) { d.Space = space(listOf(dims), listOf(most)) })
	}
	for _, text := range []string{"", "2", "2,2,2", "0,2", "2,0", "-1,2", "2,-1", "-2,-2", "41,1", "1,41", "8,9", "13,5", "40,2", "4096,4096"} {
		add("chunk", func(d *impl.Dataset) { d.Chunk = listOf(text) })
	}
	for _, n := range []int64{math.MinInt64, math.MaxInt64, 1 << 32, 1 << 62, 1<<32 + 1} {
		add("chunk", func(d *impl.Dataset) { d.Chunk = []int64{n, n} })
		add("space", func(d *impl.Dataset) { d.Space = space([]int64{n, 0}, []int64{-1, -1}) })
		add("chunk", func(d *impl.Dataset) { d.Chunk = []int64{2, n} })
	}
	add("chunk", func(d *impl.Dataset) { d.Space = space([]int64{17, 1}, []int64{-1, -1}); d.Chunk = []int64{1, 1} })
	add("chunk", func(d *impl.Dataset) { d.Space = space([]int64{16, 17}, []int64{-1, -1}); d.Chunk = []int64{1, 1} })
	add("chunk", func(d *impl.Dataset) { d.Space = space(nil, nil) })
	for size, chunk := range map[int64][]int64{9: {3, 19}, 16: {3, 11}, 10: {2, 26}, 13: {1, 40}, 12: {2, 22}} {
		add("bytes of a chunk", func(d *impl.Dataset) {
			d.Type, d.Fill, d.Chunk = textType(size), strings.Repeat("\x00", int(size)), chunk
		})
	}
	for _, f := range badFilters() {
		add("filters", func(d *impl.Dataset) { d.Filters = []impl.Filter{f} })
		add("filters", func(d *impl.Dataset) { d.Filters = []impl.Filter{filter(5, 0), f} })
	}
	for _, words := range []string{"run run run run run", "sum sum sum sum sum sum", "sum?", "delta3"} {
		add("filters", func(d *impl.Dataset) { d.Filters = filtersIn(words) })
	}
	for _, fill := range fillsThatAreNone() {
		add("fill value", func(d *impl.Dataset) { d.Fill = fill })
	}
	add("fill value", func(d *impl.Dataset) { d.Type = enumType(intType(2, false, false), []string{"A"}, []int64{1}) })
	add("fill value", func(d *impl.Dataset) { d.Type = compoundType(2, member("A", 1, intType(1, false, false))) })
	return list
}

func TestP23DatasetsThatAreNotValid(t *testing.T) {
	for what, changes := range badParts() {
		for _, change := range changes {
			d := setOf(t, "text(2) (4,3) 2,2 none 6100")
			checkDataset(t, "before", d, true)
			change(&d)
			checkDataset(t, what, d, false)
			d.Index = 7
			checkDataset(t, what, d, false)
		}
	}
	// Chunks of as many bytes as there may be.
	for _, text := range []string{"text(8) (3,19) 4,16 none", "text(16) (3,11) 4,8 none", "text(12) (2,21) 2,21 none", "array(3,i8) (1,21) 1,21 none", "u1 (8,8) 8,8 none", "text(9) (7,8) 7,8 none"} {
		size := sizeOf(mustType(t, strings.Fields(text)[0]))
		checkDataset(t, "a long chunk", setOf(t, text+" "+strings.Repeat("00", int(size))), true)
	}
}

func TestP23SameDatasets(t *testing.T) {
	list := goodSets(t)
	base := setOf(t, "text(2) (4,3) 2,2 none 6100")
	for _, change := range []func(d *impl.Dataset){
		func(d *impl.Dataset) {}, func(d *impl.Dataset) { d.Type = textType(3) }, func(d *impl.Dataset) { d.Type = refType() }, func(d *impl.Dataset) { d.Space.Dims = []int64{4, 2} }, func(d *impl.Dataset) { d.Space.Max = []int64{4, -1} }, func(d *impl.Dataset) { d.Chunk = []int64{2, 1} }, func(d *impl.Dataset) { d.Chunk = []int64{2} }, func(d *impl.Dataset) { d.Chunk = []int64{2, 2, 2} },
		func(d *impl.Dataset) { d.Filters = filtersIn("run") }, func(d *impl.Dataset) { d.Filters = filtersIn("run?") }, func(d *impl.Dataset) { d.Filters = filtersIn("run run") }, func(d *impl.Dataset) { d.Fill = "ab" }, func(d *impl.Dataset) { d.Fill = "" }, func(d *impl.Dataset) { d.Index = 1 }, func(d *impl.Dataset) { d.Index = -1 }, func(d *impl.Dataset) { d.Type = selfContaining(1, 1) }, func(d *impl.Dataset) { d.Type = selfContaining(2, 2) }, func(d *impl.Dataset) { *d = impl.Dataset{} },
	} {
		d := base
		change(&d)
		list = append(list, d)
	}
	for i, a := range list {
		for j, b := range list {
			check(t, shown("SameDataset", i, j), impl.SameDataset(a, b), i == j)
		}
		if impl.ValidType(a.Type) {
			check(t, "SameDataset of a copy", []bool{impl.SameDataset(a, roomySet(a)), impl.SameDataset(roomySet(a), a)}, []bool{true, true})
		}
	}
	empty := impl.Dataset{Type: impl.Type{Names: []string{}, Nums: []int64{}}, Space: space([]int64{}, []int64{}), Chunk: []int64{}, Filters: []impl.Filter{}}
	check(t, "nil and empty", impl.SameDataset(empty, impl.Dataset{}), true)
}

// A dataset with its chunks, written out.
func TestP23WrittenDataset(t *testing.T) {
	p, root := rooted(t, 100, 30)
	d := setOf(t, "u2 (4/*,3) 2,2 shuffle(2)+run?+sum 0900")
	p, at, code := checkCreateDataset(t, "written", p, root, "set", d)
	check(t, "CreateDataset", []any{root, at, code, dirtyBlocks(p)}, []any{int64(33), int64(35), int64(impl.OK), []int64{32, 33, 34, 35}})
	checkOnlyLinks(t, "written", p, root, hard("set", 35))
	page := func(k int64) string { return first(impl.GetPage(p, k)) }
	check(t, "the index", page(34), "\x01\x00"+blockOf("\x00")[2:])
	form := "\x02\x01\x00\x05" + "\x01\x00\x03\x01\x02\x00" + "\x02\x00\x05\x02\x04\xff\x03\x03" + "\x03\x00\x05\x02\x02\x02\x22\x00" + "\x04\x00\x0a\x03\x01\x02\x00\x03\x00\x01\x05\x00\x00" + "\x05\x00\x02\x09\x00"
	check(t, "the header", page(35), "\x00\x00\x2c\x00"+form+blockOf("\x00")[48:])
	d.Index = 34
	got, code := checkOpenDataset(t, "written", p, at)
	checkValues(t, "OpenDataset", []any{got, code}, []any{d, impl.OK})
	checkClean(t, "written", p)
	p, _ = impl.Commit(p)
	// A chunk at the edge: the elements outside of the dataset are the fill value.
	p, code = checkWriteData(t, "written", p, at, slabOf([]int64{0, 2}, []int64{1, 1}, []int64{1, 1}, []int64{1, 1}), d.Type, "\x07\x01")
	stored := "\x07\x09\x09\x09\x01\x00\x00\x00"
	check(t, "WriteData", []any{code, dirtyBlocks(p)}, []any{int64(impl.OK), []int64{32, 34, 36}})
	check(t, "the index", page(34), "\x01\x01"+"\x01\x00\x24\x00\x0c\x00\x02"+blockOf("\x00")[9:])
	check(t, "the run", page(36), stored+sumOfBytes(stored)+blockOf("\x00")[12:])
	checkValues(t, "the chunk", []any{first3(impl.ReadChunk(p, got, 1))}, []any{"\x07\x01\x09\x00\x09\x00\x09\x00"})
	p, _ = impl.Commit(p)
	p, code = checkWriteChunk(t, "written", p, at, 16, "\x05\x00\x05\x00\x05\x00\x05\x00")
	stored = "\x04\x05\x04\x00"
	check(t, "WriteChunk", []any{code, dirtyBlocks(p)}, []any{int64(impl.OK), []int64{32, 34, 37}})
	check(t, "the index", page(34), "\x01\x02"+"\x01\x00\x24\x00\x0c\x00\x02"+"\x10\x00\x25\x00\x08\x00\x00"+blockOf("\x00")[16:])
	check(t, "the run", page(37), stored+sumOfBytes(stored)+blockOf("\x00")[8:])
	a, code := checkReadArray(t, "written", p, at)
	checkValues(t, "ReadArray", []any{a, code}, []any{arrayIn(d.Type, []int64{4, 3}, "\x09\x00\x09\x00\x07\x01"+"\x09\x00\x09\x00\x09\x00"+"\x05\x00\x05\x00\x09\x00"+"\x05\x00\x05\x00\x09\x00"), impl.OK})
	p, _ = impl.Commit(p)
	// Two rows less, and one more than before.
	p, code = checkResizeDataset(t, "written", p, at, []int64{3, 3})
	stored = "\x02\x05\x02\x09\x04\x00"
	check(t, "ResizeDataset", []any{code, dirtyBlocks(p)}, []any{int64(impl.OK), []int64{34, 35, 37}})
	check(t, "the run", page(37), stored+sumOfBytes(stored)+blockOf("\x00")[10:])
	check(t, "the header", page(35), "\x00\x00\x2c\x00"+strings.Replace(form, "\x02\x04\xff\x03\x03", "\x02\x03\xff\x03\x03", 1)+blockOf("\x00")[48:])
	p, _ = impl.Commit(p)
	p, code = checkResizeDataset(t, "written", p, at, []int64{5, 3})
	check(t, "ResizeDataset", []any{code, dirtyBlocks(p)}, []any{int64(impl.OK), []int64{35}})
	p, _ = impl.Commit(p)
	p, code = checkResizeDataset(t, "written", p, at, []int64{2, 3})
	check(t, "ResizeDataset", []any{code, dirtyBlocks(p), page(34)}, []any{int64(impl.OK), []int64{32, 34, 35}, "\x01\x01" + "\x01\x00\x24\x00\x0c\x00\x02" + blockOf("\x00")[9:]})
	checkClean(t, "written", p)
	p, _ = impl.Commit(p)
	p, code = checkRemoveLink(t, "written", p, root, "set")
	check(t, "RemoveLink", []any{code, impl.FreeCount(p)}, []any{int64(impl.OK), int64(66)})
	checkClean(t, "written", p)
}

func first3(s string, ok bool, code int64) string {
	return s
}

const byteSet = "u1 (4/*,3/*) 2,2 none 2d"

// Headers that describe the dataset of bytes with its index in the block 80, in
// messages of any order, between others.
func TestP23DatasetsThatAreRead(t *testing.T) {
	d := setOf(t, byteSet)
	d.Index = 80
	forms := formsOfSet(d)
	attribute, long, others := message(impl.MsAttribute, 3, "attribute"), message(impl.MsVirtual, 255, strings.Repeat("long", 50)), []impl.Message{message(impl.MsLinks, 0, ""), message(impl.MsNames, 0, "\x00")}
	turned := slices.Clone(forms)
	slices.Reverse(turned)
	for i, messages := range [][]impl.Message{
		forms, turned, slices.Concat(others, forms), slices.Concat(forms, others, others), {long, forms[2], attribute, forms[0], attribute, forms[4], long, forms[3], forms[1], long}, append(manyAttributes(19), forms...), append(turned, manyAttributes(19)...),
	} {
		for _, refs := range []int64{0, 1, 1000} {
			h := headerOf(impl.ObDataset, refs, messages...)
			p := storeWith(t, 40, thing{40, folderHeader(1)}, thing{50, h})
			p = withPages(t, markedStore(t, p, 80), pageAt(80, blockOfNode(leafOf())))
			what := shown("read", i, refs)
			got, code := checkOpenDataset(t, what, p, 50)
			checkValues(t, what, []any{got, code}, []any{d, impl.OK})
			check(t, what, setCodes(t, what, p, 50), make([]int64, 7))
		}
	}
	pages := chainOf(formOf(headerOf(impl.ObDataset, 1, append([]impl.Message{message(impl.MsAttribute, 7, strings.Repeat("fill", 25))}, forms...)...)), []int64{20, 17, 38})
	for places := range 27 {
		got, code := checkOpenDataset(t, shown("places", places), scattered(t, 40, 12, pages, places), 20)
		checkValues(t, shown("places", places), []any{got, code}, []any{d, impl.OK})
	}
	for _, d := range goodSets(t) {
		d.Index = 255
		got, code := checkOpenDataset(t, "good", storeWith(t, 0, thing{50, headerOf(impl.ObDataset, 1, formsOfSet(d)...)}), 50)
		checkValues(t, "good", []any{got, code}, []any{d, impl.OK})
	}
}

func manyAttributes(count int) []impl.Message {
	return slices.Repeat([]impl.Message{message(impl.MsAttribute, 9, "")}, count)
}

// markedStore returns a store in which some more blocks are allocated.
func markedStore(t *testing.T, p impl.Pager, blocks ...int64) impl.Pager {
	t.Helper()
	_, area := areaOf(p)
	return withArea(p, 0, withBits(area, true, blocks...))
}

// badSetForms are messages that do not describe a dataset, which differ from
// those of a dataset of bytes with its index in the block 80.
func badSetForms(t *testing.T) map[string][]impl.Message {
	t.Helper()
	d := setOf(t, byteSet)
	d.Index = 80
	list := map[string][]impl.Message{"no messages": nil}
	names := []string{"MsType", "MsSpace", "MsLayout", "MsFilters", "MsFill"}
	with := func(what string, k int, m ...impl.Message) {
		list[what] = slices.Concat(formsOfSet(d)[:k], m, formsOfSet(d)[k+1:])
	}
	for k, m := range formsOfSet(d) {
		with("none of "+names[k], k)
		with("two of "+names[k], k, m, m)
		with("another one behind "+names[k], k, m, message(m.Kind, 0, ""))
		with("another one before "+names[k], k, message(m.Kind, 0, ""), m)
		with("one with Flags behind "+names[k], k, m, message(m.Kind, 1, m.Data))
		with("one with Flags before "+names[k], k, message(m.Kind, 128, m.Data), m)
		list["one at the end with "+names[k]] = append(formsOfSet(d), m)
		list["one at the start with "+names[k]] = append([]impl.Message{m}, formsOfSet(d)...)
		for _, flags := range []int64{1, 2, 128, 255} {
			with(shown("Flags of", names[k], flags), k, message(m.Kind, flags, m.Data))
		}
		for i, data := range []string{"", m.Data[:len(m.Data)-1], m.Data[1:], m.Data + "\x00", "\x00" + m.Data, m.Data + m.Data} {
			with(shown("other Data of", names[k], i), k, message(m.Kind, 0, data))
		}
		with("another kind than "+names[k], k, message(impl.MsAttribute, 0, m.Data))
	}
	for i, data := range []string{"\x01\x02\x01", "\x01\x02\x02", "\x01\x03\x00", "\x02\x00", "\x06\x00", "\x07", "\x02\x01\x00", "\x06", "\x01\x08\x01", "\x02\x02"} {
		with(shown("another type", i), 0, message(impl.MsType, 0, data))
	}
	for i, data := range []string{"\x01\x04\xff", "\x03\x04\xff\x03\xff\x01\xff", "\x02\x04\x03\x03\xff", "\x02\x04\x29\x03\xff", "\x02\x29\xff\x03\xff", "\x02\x19\xff\x19\xff", "\x02\x04\xff\x03\xfe", "\x00", "\x02\xff\xff\x03\xff", "\x02\x28\xff\x03\xff"} {
		with(shown("another space", i), 1, message(impl.MsSpace, 0, data))
	}
	for i, data := range []string{"\x02\x02\x02\x00\x00", "\x02\x02\x02\x00\x01", "\x02\x02\x02\x50\x01", "\x02\x02\x02\xff\xff", "\x01\x02\x50\x00", "\x03\x02\x02\x02\x50\x00", "\x02\x00\x02\x50\x00", "\x02\x29\x01\x50\x00", "\x02\x08\x09\x50\x00", "\x02\x02\x02\x50", "\x02\x02\x02", "\x02\x02\x50\x00", "\x00\x50\x00", "\x02\x02\x02\x50\x00\x00", "\x02\xff\x02\x50\x00", "\x04\x02\x02\x01\x01\x50\x00", "\xff\x02\x02\x50\x00"} {
		with(shown("another layout", i), 2, message(impl.MsLayout, 0, data))
	}
	for i, data := range []string{"\x01", "\x01\x06\x00\x00", "\x01\x05\x00\x01", "\x01\x03\x00\x02", "\x01\x05\x00", "\x05" + strings.Repeat("\x05\x00\x00", 5), "\x00\x05\x00\x00", "\x01\x02\x03\x00"} {
		with(shown("other filters", i), 3, message(impl.MsFilters, 0, data))
	}
	long := d
	long.Type, long.Fill = longType(200), "\x00\x00"
	list["the longest type, but another fill value"] = slices.Concat(formsOfSet(long)[:4], formsOfSet(d)[4:])
	large := setOf(t, "text(16) (4/*,8/*) 4,8 none "+strings.Repeat("00", 16))
	large.Index = 80
	list["too many bytes of a chunk"] = slices.Concat(formsOfSet(large)[:2], []impl.Message{message(impl.MsLayout, 0, "\x02\x05\x08\x50\x00")}, formsOfSet(large)[3:])
	return list
}

func TestP23ObjectsThatAreNoDatasets(t *testing.T) {
	for what, messages := range badSetForms(t) {
		for kind, want := range map[int64]int64{impl.ObDataset: impl.ErrCorrupt, impl.ObGroup: impl.ErrType, impl.ObVirtual: impl.ErrType} {
			p := storeWith(t, 40, thing{40, folderHeader(1, hard("x", 50))}, thing{50, headerOf(kind, 1, messages...)})
			p = withPages(t, markedStore(t, p, 80), pageAt(80, blockOfNode(leafOf())))
			check(t, shown(what, kind), setCodes(t, what, p, 50), slices.Repeat([]int64{want}, 7))
			if kind == impl.ObDataset {
				_, code := checkRemoveLink(t, what, p, 40, "x")
				check(t, shown(what, "RemoveLink"), code, want)
			}
		}
	}
	p, at, _ := storeOfSet(t, byteSet, map[int64]string{0: "abcd"})
	check(t, "a dataset", setCodes(t, "a dataset", p, at), make([]int64, 7))
	for _, k := range append([]int64{65, 66, 67, at - 1, at + 1, at + 2, 255, 256, at + 256, at + 65536, -at}, oddNumbers()...) {
		want := int64(impl.ErrCorrupt)
		switch k {
		case 67:
			want = impl.ErrType
		case at:
			want = impl.OK
		}
		check(t, shown("number", k), setCodes(t, "number", p, k), slices.Repeat([]int64{want}, 7))
	}
}

// Types that are none come before all that is wrong with the object.
func TestP23TypesThatAreNone(t *testing.T) {
	p, at, _ := storeOfSet(t, byteSet, nil)
	for _, of := range endingBadTypes() {
		for _, k := range []int64{at, 67, 68, 0} {
			for _, s := range []impl.Selection{selectAll, selectNone, {}} {
				_, code := checkReadData(t, "type", p, k, s, of)
				_, writeCode := checkWriteData(t, "type", p, k, s, of, "")
				check(t, shown("type", of, k), []int64{code, writeCode}, []int64{impl.ErrInvalid, impl.ErrInvalid})
			}
		}
	}
}

func TestP23PagersThatAreNotValid(t *testing.T) {
	d := setOf(t, byteSet)
	for i, p := range badPagers() {
		what := shown("bad", i)
		codes := []int64{}
		for _, at := range []int64{0, 12, 20, 39, math.MaxInt64} {
			codes = append(codes, setCodes(t, what, p, at)...)
			_, _, code := checkCreateDataset(t, what, p, at, "set", d)
			codes = append(codes, code)
		}
		for _, key := range []int64{0, 1, -1} {
			_, _, code := checkReadChunk(t, what, p, d, key)
			codes = append(codes, code)
		}
		check(t, what, codes, slices.Repeat([]int64{impl.ErrInvalid}, 43))
	}
}

// Keys of chunks that exist, of others that may be written, and of none.
func TestP23Keys(t *testing.T) {
	for text, keys := range map[string][]int64{
		"u1 () - none 2d": {0}, "u1 (40) 4 none 2d": numbersFrom(0, 9), "u1 (5,3) 2,2 none 2d": {0, 1, 16, 17, 32, 33}, "u1 (3,1,5) 2,1,3 none 2d": {0, 1, 256, 257}, "u1 (0/*,3) 2,2 none 2d": nil, "u1 (16,16) 1,1 none 2d": numbersFrom(0, 255),
	} {
		p, at, d := storeOfSet(t, text, nil)
		data := strings.Repeat("e", int(volume(d.Chunk)))
		if len(keys) > 0 {
			p, _ = impl.WriteChunk(p, at, keys[0], data)
		}
		for _, key := range append([]int64{-1, -16, 2, 3, 10, 15, 16, 18, 31, 34, 48, 255, 256, 258, 272, 512, 4095, 4096, 65535, 65536}, append(oddNumbers(), keys...)...) {
			isKey := slices.Contains(keys, key)
			got, found, code := checkReadChunk(t, text, p, d, key)
			_, writeCode := checkWriteChunk(t, text, p, at, key, data)
			_, typeCode := checkWriteChunk(t, text, p, at, key, data+"e")
			want := []any{"", false, int64(impl.ErrRange), int64(impl.ErrRange), int64(impl.ErrRange)}
			if isKey {
				want[2], want[3], want[4] = int64(impl.OK), int64(impl.OK), int64(impl.ErrType)
				if key == keys[0] {
					want[0], want[1] = data, true
				}
			}
			check(t, shown(text, key), []any{got, found, code, writeCode, typeCode}, want)
		}
	}
}

// Entries of the index that are wrong, or unusual but not wrong, for the chunk 1.
func TestP23EntriesOfTheIndex(t *testing.T) {
	sum := func(data string) string { return data + sumOfBytes(data) }
	pairs := strings.Repeat("\x01\x01\x01\x02", 275) // of 1100 bytes, for 550 and then 825 bytes
	for _, c := range []struct {
		words  string
		at     int64
		size   int64
		mask   int64
		stored string
		want   string
		code   int64
	}{
		{"", 200, 4, 0, "wxyz", "wxyz", impl.OK}, {"", 200, 3, 0, "wxy", "", impl.ErrCorrupt}, {"", 200, 5, 0, "vwxyz", "", impl.ErrCorrupt}, {"", 200, 0, 0, "wxyz", "", impl.ErrCorrupt}, {"", 200, 8, 0, "wxyzwxyz", "", impl.ErrCorrupt}, {"", 200, 4, 0, "wxyz and more", "wxyz", impl.OK},
		{"", 200, 512, 0, allBytes(512), "", impl.ErrCorrupt}, {"", 200, 513, 0, allBytes(513), "", impl.ErrCorrupt}, {"", 200, 1100, 0, allBytes(1100), "", impl.ErrCorrupt}, {"", 200, 1101, 0, allBytes(1101), "", impl.ErrCorrupt}, {"", 200, 65535, 0, "", "", impl.ErrCorrupt},
		// Places of the run. The allocation page is 66; whether a block is allocated does not matter.
		{"", 255, 4, 0, "wxyz", "wxyz", impl.OK}, {"", 255, 64, 0, blockOf("a"), "", impl.ErrCorrupt}, {"", 255, 65, 0, "", "", impl.ErrCorrupt}, {"", 66, 4, 0, "", "", impl.ErrCorrupt}, {"", 65, 128, 0, "", "", impl.ErrCorrupt}, {"", 1, 4, 0, "", "", impl.ErrCorrupt}, {"", 67, 4, 0, "", "\x00\x00\x13\x00", impl.OK}, {"sum", 254, 192, 0, "", "", impl.ErrCorrupt}, {"sum", 66, 8, 0, "", "", impl.ErrCorrupt},
		// Masks.
		{"", 200, 4, 1, "wxyz", "", impl.ErrCorrupt}, {"", 200, 4, 255, "wxyz", "", impl.ErrCorrupt}, {"run", 200, 4, 1, "wxyz", "", impl.ErrCorrupt}, {"run?", 200, 4, 1, "wxyz", "wxyz", impl.OK}, {"run?", 200, 4, 0, "\x03a\x01b", "aaab", impl.OK}, {"run?", 200, 8, 0, "\x01w\x01x\x01y\x01z", "wxyz", impl.OK}, {"run?", 200, 4, 2, "wxyz", "", impl.ErrCorrupt}, {"run? lz?", 200, 4, 3, "wxyz", "wxyz", impl.OK}, {"run? sum", 200, 8, 2, sum("wxyz"), "", impl.ErrCorrupt}, {"run? sum", 200, 8, 1, sum("wxyz"), "wxyz", impl.OK}, {"run? sum", 200, 8, 3, sum("wxyz"), "", impl.ErrCorrupt},
		// Bytes that the pipeline cannot restore, or that are too few or too many elements.
		{"sum", 200, 8, 0, sum("wxyz"), "wxyz", impl.OK}, {"sum", 200, 8, 0, "wxyz....", "", impl.ErrChecksum}, {"sum", 200, 3, 0, "wxy", "", impl.ErrCorrupt}, {"sum", 200, 9, 0, sum("vwxyz"), "", impl.ErrCorrupt}, {"sum", 200, 7, 0, sum("xyz"), "", impl.ErrCorrupt}, {"run", 200, 4, 0, "\x00a\x04b", "", impl.ErrCorrupt}, {"run", 200, 3, 0, "\x04a\x01", "", impl.ErrCorrupt}, {"run", 200, 2, 0, "\x05a", "", impl.ErrCorrupt}, {"run", 200, 2, 0, "\x03a", "", impl.ErrCorrupt}, {"run", 200, 2, 0, "\x04a", "aaaa", impl.OK}, {"lz", 200, 5, 0, "\x00a\x80\x01\x00", "aaaa", impl.OK}, {"lz", 200, 5, 0, "\x00a\x80\x02\x00", "", impl.ErrCorrupt}, {"run", 200, 6, 0, "\xffa\xffa\x03a", "", impl.ErrCorrupt},
		{"run sum", 200, 6, 0, sum("\x04a"), "aaaa", impl.OK}, {"run sum", 200, 6, 0, "\x04a....", "", impl.ErrChecksum}, {"sum run", 200, 16, 0, "\x04a" + runsOf(sumOfBytes("aaaa")) + "....", "", impl.ErrCorrupt}, {"run run", 200, 1100, 0, pairs, "", impl.ErrCorrupt}, {"sum", 200, 1101, 0, sum(allBytes(1097)), "", impl.ErrCorrupt}, {"sum", 200, 1100, 0, allBytes(1100), "", impl.ErrChecksum}, {"sum", 200, 1101, 0, allBytes(1101), "", impl.ErrCorrupt},
	} {
		p, at, d := storeOfSet(t, strings.Replace(byteSet, "none", textOfPipeline(filtersIn(c.words)), 1), map[int64]string{0: "abcd", 16: "efgh"})
		p = withEntry(t, p, d, chunkAt(1, c.at, c.size, c.mask), c.stored)
		what := shown(c.words, c.at, c.size, c.mask)
		data, found, code := checkReadChunk(t, what, p, d, 1)
		check(t, what, []any{data, found, code}, []any{c.want, c.code == impl.OK, c.code})
		var codes []int64
		for _, s := range []impl.Selection{pointsOf([]int64{1, 2}), selectAll, pointsOf([]int64{0, 0}, []int64{3, 0})} {
			_, code = checkReadData(t, what, p, at, s, d.Type)
			_, writeCode := checkWriteData(t, what, p, at, s, d.Type, strings.Repeat("z", int(impl.SelectedCount(d.Space.Dims, s))))
			codes = append(codes, code, writeCode)
		}
		_, arrayCode := checkReadArray(t, what, p, at)
		_, sizeCode := checkResizeDataset(t, what, p, at, []int64{4, 4})
		check(t, what, append(codes[:1], codes[2], arrayCode, sizeCode), slices.Repeat([]int64{c.code}, 4))
		check(t, what, codes[4:], []int64{impl.OK, impl.OK})
		checkFreeDataset(t, what, p, at)
		checkFreeDataset(t, what, markedStore(t, p, 200, 201, 255), at)
		checkWriteChunk(t, what, p, at, 1, "mnop")
		checkResizeDataset(t, what, p, at, []int64{4, 2})
	}
}

// Elements that are none of the type.
func TestP23ElementsThatAreNone(t *testing.T) {
	text := "enum(i1,A=1,B=2) (4/*,3) 2,2 none 01"
	p, at, d := storeOfSet(t, text, map[int64]string{16: "\x01\x02\x01\x02"})
	for _, data := range []string{"\x01\x01\x01\x00", "\x00\x01\x01\x01", "\x01\x01\x03\x01", "\x01\x01\x01", "\x01\x01\x01\x01\x01", "", strings.Repeat("\x01", 512), strings.Repeat("\x01", 600)} {
		q := withEntry(t, p, d, chunkAt(0, 200, int64(len(data)), 0), data)
		_, found, code := checkReadChunk(t, "stored", q, d, 0)
		_, sizeCode := checkResizeDataset(t, "stored", q, at, []int64{1, 3})
		check(t, shown("stored", data), []any{found, code, sizeCode}, []any{false, int64(impl.ErrCorrupt), int64(impl.ErrCorrupt)})
		_, code = checkWriteChunk(t, "written", p, at, 0, data)
		check(t, shown("written", data), code, int64(impl.ErrType))
		_, code = checkWriteData(t, "written", p, at, slabOf([]int64{0, 0}, []int64{2, 2}, []int64{1, 1}, []int64{2, 2}), d.Type, data)
		check(t, shown("written", data), code, int64(impl.ErrType))
	}
}

// runsOfWords returns the elements of a chunk of 64 words of 4 bytes for which
// RunEncode returns so many bytes, an even number from 4 to 512.
func runsOfWords(bytes int) string {
	b := slices.Repeat([]byte{'.'}, 256)
	for i := range bytes/2 - 1 {
		b[i] = "ab"[i%2]
	}
	return string(b)
}

// placesText returns the places of the chunks of a dataset, such as 0:70-71 for
// the blocks 70 and 71.
func placesText(t *testing.T, p impl.Pager, at int64) string {
	t.Helper()
	entries := entriesOf(t, p, at)
	var words []string
	for _, c := range sortedChunks(entries) {
		words = append(words, fmt.Sprintf("%d:%d-%d", c.Key, c.At, c.At+impl.BlocksFor(c.Size)-1))
	}
	return strings.Join(words, " ")
}

// Chunks that are written again with as many blocks, with fewer and with more.
func TestP23RunsOfChunks(t *testing.T) {
	p, at, _ := storeOfSet(t, "u4 (8,32) 8,8 run 2e2e2e2e", nil)
	for _, c := range []struct {
		key   int64
		bytes int
		want  string
	}{
		{0, 4, "0:70-70"}, {0, 64, "0:70-70"}, {0, 66, "0:70-71"}, {1, 4, "0:70-71 1:72-72"}, {0, 128, "0:70-71 1:72-72"}, {0, 130, "0:73-75 1:72-72"}, {2, 66, "0:73-75 1:72-72 2:70-71"}, {0, 64, "0:73-73 1:72-72 2:70-71"}, {1, 512, "0:73-73 1:74-81 2:70-71"}, {3, 64, "0:73-73 1:74-81 2:70-71 3:72-72"}, {2, 194, "0:73-73 1:74-81 2:82-85 3:72-72"}, {0, 128, "0:70-71 1:74-81 2:82-85 3:72-72"}, {1, 450, "0:70-71 1:74-81 2:82-85 3:72-72"}, {1, 448, "0:70-71 1:73-79 2:82-85 3:72-72"}, {1, 512, "0:70-71 1:73-80 2:82-85 3:72-72"},
	} {
		var code int64
		data := runsOfWords(c.bytes)
		p, code = checkWriteChunk(t, "runs", p, at, c.key, data)
		check(t, shown("WriteChunk", c.key, c.bytes), []any{code, placesText(t, p, at), entriesOf(t, p, at)[c.key].Size}, []any{int64(impl.OK), c.want, int64(c.bytes)})
		d, _ := impl.OpenDataset(p, at)
		got, found, code := checkReadChunk(t, "runs", p, d, c.key)
		check(t, "ReadChunk", []any{got, found, code}, []any{data, true, int64(impl.OK)})
		checkClean(t, "runs", p)
		p, _ = impl.Commit(p)
	}
	// The same bytes again: the run, and nothing else.
	after, code := checkWriteChunk(t, "runs", p, at, 0, runsOfWords(128))
	check(t, "the same bytes", []any{code, dirtyBlocks(after)}, []any{int64(impl.OK), []int64{70, 71}})
	after, code = checkWriteChunk(t, "runs", p, at, 0, runsOfWords(126))
	check(t, "another Size", []any{code, dirtyBlocks(after)}, []any{int64(impl.OK), []int64{68, 70, 71}})
	// Without room for more blocks, and in the order in which blocks are released and allocated.
	for bytes, needed := range map[int]int64{4: 0, 66: 0, 128: 0, 130: 1, 192: 1, 194: 2, 512: 6} {
		for free := range int64(8) {
			taken := slices.Delete(numbersFrom(81, 255), 1, 5)
			q := markedStore(t, p, taken[:len(taken)-int(free)]...)
			_, code := checkWriteChunk(t, "room", q, at, 0, runsOfWords(bytes))
			want := int64(impl.OK)
			// Blocks at the end of the store are not beside those of the chunk.
			if needed > 0 && free < needed+2 {
				want = impl.ErrFull
			}
			check(t, shown("WriteChunk", bytes, "with free blocks", free), code, want)
		}
	}
	next := markedStore(t, p, numbersFrom(86, 255)...)
	_, code = checkWriteChunk(t, "room", next, at, 0, runsOfWords(194))
	check(t, "no run of 4 blocks", code, int64(impl.ErrFull))
	_, code = checkWriteChunk(t, "room", next, at, 2, runsOfWords(256))
	check(t, "the blocks that are released suffice", code, int64(impl.OK))
	next = markedStore(t, p, numbersFrom(87, 255)...)
	next, code = checkWriteChunk(t, "room", next, at, 2, runsOfWords(258))
	check(t, "the blocks that are released and one more", []any{code, placesText(t, next, at)}, []any{int64(impl.OK), "0:70-71 1:73-80 2:81-85 3:72-72"})
}

// Results of the pipeline of MaxStored bytes, and of more.
func TestP23StoredBytesAtTheirLimit(t *testing.T) {
	for text, want := range map[string]int64{
		"text(5) (5,11) 5,11 run+run": impl.OK, "text(6) (2,23) 2,23 run+run": impl.ErrFull, "text(6) (2,23) 2,23 run+run?": impl.OK, "text(5) (5,11) 5,11 run+run+sum": impl.ErrFull, "text(16) (4,8) 4,8 run": impl.OK, "text(16) (4,8) 4,8 run+sum+sum": impl.OK, "text(16) (4,8) 4,8 run+run": impl.ErrFull,
	} {
		size := sizeOf(mustType(t, strings.Fields(text)[0]))
		p, at, d := storeOfSet(t, text+" "+strings.Repeat("00", int(size)), nil)
		data := strings.Repeat("abcdefghijklmnop"[:size], int(volume(d.Chunk)))
		_, code := checkWriteChunk(t, text, p, at, 0, data)
		after, dataCode := checkWriteData(t, text, p, at, selectAll, d.Type, data)
		check(t, text, []int64{code, dataCode}, []int64{want, want})
		if want == impl.OK {
			a, code := checkReadArray(t, text, after, at)
			check(t, text, []any{a.Data, code}, []any{data, int64(impl.OK)})
		}
	}
}

// An index whose root changes, in a header with other messages.
func TestP23RootsThatChange(t *testing.T) {
	p, at, d := storeOfSet(t, "u1 (16/*) 1 none 2d", nil)
	h, _ := impl.ReadHeader(p, at)
	others := []impl.Message{message(impl.MsAttribute, 7, strings.Repeat("a", 100)), message(impl.MsVirtual, 1, "v"), message(impl.MsLinks, 0, "")}
	h.Messages = slices.Concat(others[:1], h.Messages[:3], others[1:], h.Messages[3:])
	p, _ = impl.WriteHeader(p, at, h)
	p, _ = impl.Commit(p)
	expect := func(what string, p impl.Pager, roots bool) int64 {
		t.Helper()
		now, code := impl.OpenDataset(p, at)
		check(t, what, []any{code, now.Index != d.Index}, []any{int64(impl.OK), roots})
		got, _ := impl.ReadHeader(p, at)
		want := roomyHeader(h)
		want.Messages[3].Data = got.Messages[3].Data
		want.Messages[2].Data = got.Messages[2].Data
		checkShown(t, what, shown(got), shown(want))
		checkClean(t, what, p)
		return now.Index
	}
	one, code := checkWriteData(t, "roots", p, at, slabOfOne(0, 8, 1, 8), d.Type, "abcdefgh")
	check(t, "WriteData of eight chunks", code, int64(impl.OK))
	expect("eight chunks", one, false)
	two, code := checkWriteData(t, "roots", one, at, slabOfOne(8, 1, 1, 1), d.Type, "i")
	check(t, "WriteData of the ninth chunk", code, int64(impl.OK))
	root := expect("nine chunks", two, true)
	three, code := checkWriteData(t, "roots", p, at, selectAll, d.Type, "abcdefghijklmnop")
	check(t, "WriteData of all chunks", code, int64(impl.OK))
	expect("all chunks", three, true)
	four, code := checkWriteChunk(t, "roots", one, at, 15, "p")
	check(t, "WriteChunk of the ninth chunk", code, int64(impl.OK))
	expect("nine chunks", four, true)
	four, _ = impl.Commit(four)
	four, code = checkWriteChunk(t, "roots", four, at, 14, "o")
	check(t, "WriteChunk of the tenth chunk", code, int64(impl.OK))
	h.Messages = slices.Clone(h.Messages)
	// The header, at 69 and the two blocks behind it, is not written again.
	check(t, "the pages", slices.Contains(dirtyBlocks(four), at), false)
	// Dimensions that change with the root of the index, and then without it.
	five, code := checkResizeDataset(t, "roots", two, at, []int64{3})
	check(t, "ResizeDataset", code, int64(impl.OK))
	check(t, "another root", expect("three chunks", five, false) != root, true)
	five, code = checkResizeDataset(t, "roots", five, at, []int64{16})
	check(t, "ResizeDataset", code, int64(impl.OK))
	a, _ := checkReadArray(t, "roots", five, at)
	check(t, "what remains", a.Data, "abc-------------")
	six, code := checkFreeDataset(t, "roots", three, at)
	check(t, "FreeDataset", []any{code, impl.FreeCount(six)}, []any{int64(impl.OK), int64(188)})
}

// plainArray is an array as its elements by the texts of their coordinates.
type plainArray struct {
	of       impl.Type
	dims     []int64
	fill     string
	elements map[string]string
}

func plainOf(d impl.Dataset) *plainArray {
	a := &plainArray{d.Type, nil, d.Fill, map[string]string{}}
	a.resize(d.Space.Dims)
	return a
}

func (a *plainArray) copied() *plainArray {
	other := *a
	other.elements = maps.Clone(a.elements)
	return &other
}

// resize keeps the elements that exist in other dimensions, too.
func (a *plainArray) resize(dims []int64) {
	old := a.elements
	a.dims, a.elements = slices.Clone(dims), map[string]string{}
	for _, at := range rowMajor(dims) {
		b, ok := old[numbersText(at)]
		if !ok {
			b = a.fill
		}
		a.elements[numbersText(at)] = b
	}
}

func (a *plainArray) put(s impl.Selection, data string) {
	selected, _ := selectedOf(a.dims, s)
	size := int(sizeOf(a.of))
	for i, at := range selected {
		a.elements[numbersText(at)] = data[i*size:][:size]
	}
}

func (a *plainArray) get(s impl.Selection) string {
	selected, _ := selectedOf(a.dims, s)
	data := ""
	for _, at := range selected {
		data += a.elements[numbersText(at)]
	}
	return data
}

func (a *plainArray) array() impl.Array {
	return arrayFrom(a.of, a.dims, func(at []int64) string { return a.elements[numbersText(at)] })
}

// checkPlain checks that a dataset contains what a plain array contains, and that
// the elements of its chunks that are outside of it are the fill value.
func checkPlain(t *testing.T, what string, p impl.Pager, at int64, a *plainArray) {
	t.Helper()
	got, code := impl.ReadArray(p, at)
	checkArray(t, what, got, code, a.array())
	d, _ := impl.OpenDataset(p, at)
	inside := numbersByKey(d.Space.Dims, d.Chunk)
	size := sizeOf(d.Type)
	for key := range entriesOf(t, p, at) {
		data, found, code := impl.ReadChunk(p, d, key)
		check(t, shown(what, "ReadChunk", key), []any{found, code}, []any{true, int64(impl.OK)})
		for number := range volume(d.Chunk) {
			if !inside[key][number] && data[number*size:][:size] != d.Fill {
				t.Errorf("%s: the element %d of the chunk %d is outside, and not the fill value", what, number, key)
			}
		}
	}
}

// Selections of drawn datasets, of every kind.
func TestP23DrawnSelections(t *testing.T) {
	m := newTypeMaker(157)
	codes, kinds := map[int64]int{}, map[int64]int{}
	for range 80 {
		d := m.drawSet()
		p, root := rooted(t, []int64{60, 100, 256}[m.IntN(3)], []int64{18, 24, 36}[m.IntN(3)])
		p, at, code := checkCreateDataset(t, "drawn", p, root, "set", d)
		check(t, "CreateDataset", code, int64(impl.OK))
		a := plainOf(d)
		for range 6 {
			s := m.drawSelection(d.Space.Dims)
			if m.IntN(5) == 0 && !slices.Contains(d.Space.Dims, 0) {
				s = m.drawPattern(d.Space.Dims)
			}
			data := m.drawData(d.Type, impl.SelectedCount(d.Space.Dims, s))
			after, code := checkWriteData(t, "drawn", p, at, s, d.Type, data)
			codes[code]++
			if code != impl.OK {
				// Whatever was written is not in the pager that it was written to.
				check(t, "code", code, int64(impl.ErrFull))
				checkPlain(t, "drawn", p, at, a)
				continue
			}
			kinds[s.Kind]++
			a.put(s, data)
			p, code = impl.Commit(after)
			check(t, "Commit", code, int64(impl.OK))
			checkPlain(t, "drawn", p, at, a)
			s = m.drawSelection(d.Space.Dims)
			data, code = checkReadData(t, "drawn", p, at, s, d.Type)
			checkBytes(t, "ReadData", data, code, a.get(s), impl.OK)
			data, code = checkReadData(t, "drawn", after, at, s, d.Type)
			checkBytes(t, "ReadData", data, code, a.get(s), impl.OK)
		}
		checkClean(t, "drawn", p)
	}
	if codes[impl.OK] < 200 || codes[impl.ErrFull] < 10 || kinds[impl.SeAll] < 10 || kinds[impl.SeNone] < 10 || kinds[impl.SeSlab] < 50 || kinds[impl.SePoints] < 20 {
		t.Errorf("too few of a code or a kind: %v %v", codes, kinds)
	}
}

// Selections of one array, written out.
func TestP23WrittenSelections(t *testing.T) {
	for _, c := range []struct{ selection, data, want, keys string }{
		{"none", "", "---------------", ""}, {"all", "abcdefghijklmno", "abcdefghijklmno", "0 1 16 17 32 33"}, {"points(4,2)", "x", "--------------x", "33"}, {"points(0,0)", "x", "x--------------", "0"}, {"points(4,2;0,0)", "xy", "y-------------x", "0 33"}, {"points(1,1;1,1;1,1)", "xyz", "----z----------", "0"}, {"points(1,1;2,1;1,1)", "xyz", "----z--y-------", "0 16"},
		{"slab(0,0;1,1;1,1;2,2)", "", "", ""}, {"slab(0,0;2,2;1,1;2,2)", "abcd", "ab-cd----------", "0"}, {"slab(1,1;2,2;1,1;2,2)", "abcd", "----ab-cd------", "0 1 16 17"}, {"slab(4,0;1,3;1,1;1,3)", "abc", "------------abc", "32 33"}, {"slab(0,2;2,1;3,1;1,1)", "abc", "--a-----b-----c", "1 17 33"}, {"slab(0,0;4,2;2,2;1,1)", "abcd", "a-b---------c-d", "0 1 32 33"},
	} {
		p, at, d := storeOfSet(t, "u1 (5,3) 2,2 none 2d", nil)
		s, isForm := impl.ReadSelection(c.selection)
		if !isForm {
			continue
		}
		p, code := checkWriteData(t, c.selection, p, at, s, d.Type, c.data)
		a, _ := checkReadArray(t, c.selection, p, at)
		var keys []string
		for _, e := range sortedChunks(entriesOf(t, p, at)) {
			keys = append(keys, fmt.Sprint(e.Key))
		}
		check(t, c.selection, []any{code, a.Data, strings.Join(keys, " ")}, []any{int64(impl.OK), c.want, c.keys})
		full, _ := checkWriteData(t, c.selection, p, at, selectAll, d.Type, "abcdefghijklmno")
		data, code := checkReadData(t, c.selection, full, at, s, d.Type)
		want, _ := dataReadIn(full, at, s, d.Type)
		check(t, c.selection, []any{data, code}, []any{want, int64(impl.OK)})
	}
}

// Selections that are not valid for the dimensions, of arrays of every rank.
func TestP23SelectionsThatAreNotValid(t *testing.T) {
	for _, text := range []string{"u1 () - none 2d", "u1 (5/*) 2 none 2d", "u1 (5,3) 2,2 none 2d", "u1 (0/*,3) 2,2 none 2d", "u1 (2,3,4) 2,2,2 none 2d"} {
		p, at, d := storeOfSet(t, text, nil)
		list := append(illFormed(), pointsOf([]int64{5, 0}), pointsOf([]int64{0, 3}), pointsOf([]int64{5}), pointsOf([]int64{0}, []int64{5}), pointsOf(nil), pointsOf([]int64{0, 0, 0}), pointsOf([]int64{0, 0, 4}), slabOfOne(0, 6, 1, 6), slabOfOne(0, 1, 1, 1), slabOf(nil, nil, nil, nil), slabOf([]int64{0, 0}, []int64{1, 4}, []int64{1, 1}, []int64{1, 4}), slabOf([]int64{4, 0}, []int64{2, 1}, []int64{1, 1}, []int64{2, 1}), slabOf([]int64{5, 0}, []int64{1, 1}, []int64{1, 1}, []int64{1, 1}))
		for _, s := range list {
			isValid := impl.ValidSelection(d.Space.Dims, s)
			for _, of := range []impl.Type{d.Type, textType(1)} {
				for _, data := range []string{"", "x", "xyz"} {
					_, code := checkReadData(t, text, p, at, s, of)
					_, writeCode := checkWriteData(t, text, p, at, s, of, data)
					check(t, shown(text, s), []bool{code == impl.ErrRange, writeCode == impl.ErrRange}, []bool{!isValid, !isValid})
				}
			}
		}
	}
}

// Arrays without elements, and of one.
func TestP23SmallArrays(t *testing.T) {
	for text, want := range map[string]string{"u1 () - none 2d": "-", "u1 (1) 1 none 2d": "-", "u1 (1,1,1) 4,4,4 none 2d": "-", "u1 (0) 1 none 2d": "", "u1 (0/*,40) 1,40 none 2d": "", "u1 (3,0,5) 1,1,1 sum 2d": ""} {
		p, at, d := storeOfSet(t, text, nil)
		a, code := checkReadArray(t, text, p, at)
		check(t, text, []any{a.Data, code}, []any{want, int64(impl.OK)})
		p, code = checkWriteData(t, text, p, at, selectAll, d.Type, strings.Repeat("x", len(want)))
		a, readCode := checkReadArray(t, text, p, at)
		check(t, text, []any{code, readCode, a.Data, len(p.Dirty) > 0}, []any{int64(impl.OK), int64(impl.OK), strings.Repeat("x", len(want)), want != ""})
		_, code = checkWriteData(t, text, p, at, selectAll, d.Type, strings.Repeat("x", len(want)+1))
		check(t, text, code, int64(impl.ErrType))
		p, code = checkWriteData(t, text, p, at, selectNone, d.Type, "")
		check(t, text, code, int64(impl.OK))
		p, code = checkFreeDataset(t, text, p, at)
		check(t, text, []any{code, impl.FreeCount(p)}, []any{int64(impl.OK), int64(188)})
	}
}

// Elements that are converted, and types that are not convertible.
func TestP23WrittenConversions(t *testing.T) {
	for _, c := range []struct {
		set, of, data string
		code          int64
		want          string // as it is stored, or empty
	}{
		{"u1", "u1", "\x05\x06", impl.OK, "\x05\x06"}, {"u2", "u1", "\x05\xff", impl.OK, "\x05\x00\xff\x00"}, {"u1", "u2", "\x05\x00\xff\x00", impl.OK, "\x05\xff"}, {"u1", "u2", "\x05\x00\x00\x01", impl.ErrConvert, ""}, {"u1", "i1", "\x05\xff", impl.ErrConvert, ""}, {"i4b", "i2", "\xfe\xff\x02\x01", impl.OK, "\xff\xff\xff\xfe\x00\x00\x01\x02"},
		{"enum(u1,A=0,B=3)", "u1", "\x00\x03", impl.OK, "\x00\x03"}, {"enum(u1,A=0,B=3)", "u1", "\x00\x02", impl.ErrConvert, ""}, {"enum(u1,A=0,B=3)", "enum(i2,B=7,C=9)", "\x07\x00\x07\x00", impl.OK, "\x03\x03"}, {"enum(u1,A=0,B=3)", "enum(i2,B=7,C=9)", "\x07\x00\x09\x00", impl.ErrConvert, ""}, {"u1", "enum(i2,B=7,C=9)", "\x07\x00\x09\x00", impl.OK, "\x07\x09"}, {"u1", "enum(i2,B=7,C=9)", "\x07\x00\x08\x00", impl.ErrType, ""},
		{"text(3)", "text(2)", "abc\x00", impl.OK, "ab\x00c\x00\x00"}, {"text(2)", "text(3)", "ab\x00abc", impl.ErrConvert, ""}, {"text(2)", "text(3)", "ab\x00a\x00b", impl.ErrType, ""}, {"text(2)", "u2", "abcd", impl.ErrType, ""}, {"u2", "text(2)", "abcd", impl.ErrType, ""}, {"ref", "u2", "abcd", impl.ErrType, ""}, {"u2", "ref", "abcd", impl.ErrType, ""}, {"ref", "ref", "abcd", impl.OK, "abcd"},
		{"record(3,A@0:u1,B@1:u2)", "record(2,B@1:u1)", "\x00\x07\x00\x08", impl.OK, "\x00\x07\x00\x00\x08\x00"}, {"record(1,A@0:u1)", "record(1,A@0:text(1))", "ab", impl.ErrType, ""}, {"array(2,u1)", "array(2,u2)", "\x01\x00\x02\x00\x03\x00\x04\x00", impl.OK, "\x01\x02\x03\x04"}, {"array(2,u1)", "array(3,u1)", "abcdef", impl.ErrType, ""}, {"u1", "u1", "\x05", impl.ErrType, ""}, {"u1", "u1", "\x05\x06\x07", impl.ErrType, ""}, {"u1", "u2", "\x05\x00\x06", impl.ErrType, ""}, {"u1", "u1", "", impl.ErrType, ""},
	} {
		d := setOf(t, c.set+" (4) 2 none 00")
		d.Fill = zeroElementOf(d.Type)
		p, root := rooted(t, 100, 30)
		p, at, _ := checkCreateDataset(t, c.set, p, root, "set", d)
		s := pointsOf([]int64{3}, []int64{0})
		of := mustType(t, c.of)
		after, code := checkWriteData(t, c.of, p, at, s, of, c.data)
		check(t, shown(c.set, c.of, c.data), code, c.code)
		if code == impl.OK {
			data, code := checkReadData(t, c.of, after, at, s, d.Type)
			check(t, shown(c.set, c.of, c.data), []any{data, code}, []any{c.want, int64(impl.OK)})
			checkReadData(t, c.of, after, at, s, of)
			checkReadData(t, c.of, after, at, selectAll, of)
		}
		// What is not convertible is not read or written, even if nothing is selected.
		_, code = checkReadData(t, c.of, p, at, selectNone, of)
		_, writeCode := checkWriteData(t, c.of, p, at, selectNone, of, "")
		_, fullCode := checkWriteData(t, c.of, p, at, selectNone, of, c.data)
		check(t, shown(c.set, c.of), []bool{code == impl.ErrType, writeCode == impl.ErrType, fullCode == impl.ErrType}, []bool{!isConvertible(d.Type, of), !isConvertible(of, d.Type), c.data != "" || !isConvertible(of, d.Type)})
	}
	// Elements that cannot be read as another type, of which others can.
	p, at, _ := storeOfSet(t, "u2 (4) 2 none 0000", nil)
	p, _ = impl.WriteData(p, at, selectAll, mustType(t, "u2"), "\x01\x00\xff\x00\x00\x01\x02\x00")
	for text, want := range map[string]int64{"points(0;1)": impl.OK, "points(2)": impl.ErrConvert, "points(3;0)": impl.OK, "all": impl.ErrConvert, "none": impl.OK, "points(1;2)": impl.ErrConvert} {
		s, _ := impl.ReadSelection(text)
		_, code := checkReadData(t, text, p, at, s, mustType(t, "u1"))
		_, signedCode := checkReadData(t, text, p, at, s, mustType(t, "i2b"))
		check(t, text, []int64{code, signedCode}, []int64{want, impl.OK})
	}
}

func TestP23DrawnConversions(t *testing.T) {
	m := newTypeMaker(158)
	codes := map[string]int{}
	for range 150 {
		d := m.drawSet()
		p, root := rooted(t, 256, 64)
		p, at, _ := checkCreateDataset(t, "drawn", p, root, "set", d)
		for range 5 {
			of := m.drawRelated(d.Type)
			if m.IntN(6) == 0 {
				of = m.draw(3, 8)
			}
			s := m.drawSelection(d.Space.Dims)
			count := impl.SelectedCount(d.Space.Dims, s)
			if m.IntN(8) == 0 {
				count++
			}
			after, code := checkWriteData(t, "drawn", p, at, s, of, m.drawData(of, count))
			codes[shown("write", code)]++
			if code == impl.OK {
				p = after
			} else if after, code = impl.WriteData(p, at, s, d.Type, m.drawData(d.Type, impl.SelectedCount(d.Space.Dims, s))); code == impl.OK {
				p = after
			}
			_, code = checkReadData(t, "drawn", p, at, m.drawSelection(d.Space.Dims), of)
			codes[shown("read", code)]++
			p, _ = impl.Commit(p)
		}
	}
	for _, name := range []string{"write 0", "write 7", "write 8", "read 0", "read 7", "read 8"} {
		if codes["["+name+"]"] < 30 {
			t.Errorf("too few of %s: %v", name, codes)
		}
	}
}

// sized returns what an array of bytes contains after its dimensions have changed
// one after the other, and the keys of its chunks.
func sized(t *testing.T, p impl.Pager, at int64, steps string) string {
	t.Helper()
	for _, step := range strings.Fields(steps) {
		var code int64
		p, code = checkResizeDataset(t, steps, p, at, listOf(strings.Trim(step, "()")))
		check(t, steps, code, int64(impl.OK))
		checkClean(t, steps, p)
		p, _ = impl.Commit(p)
	}
	a, code := checkReadArray(t, steps, p, at)
	check(t, steps, code, int64(impl.OK))
	text := a.Data
	for _, e := range sortedChunks(entriesOf(t, p, at)) {
		text += fmt.Sprint(" ", e.Key)
	}
	return text
}

// What remains when dimensions change, written out.
func TestP23DimensionsThatChange(t *testing.T) {
	for _, c := range []struct{ set, data, steps, want string }{
		{"u1 () - none 2d", "a", "()", "a 0"},
		{"u1 (6/*) 2 none 2d", "abcdef", "(6)", "abcdef 0 1 2"}, {"u1 (6/*) 2 none 2d", "abcdef", "(5)", "abcde 0 1 2"}, {"u1 (6/*) 2 none 2d", "abcdef", "(4)", "abcd 0 1"}, {"u1 (6/*) 2 none 2d", "abcdef", "(5) (6)", "abcde- 0 1 2"}, {"u1 (6/*) 2 none 2d", "abcdef", "(3) (6)", "abc--- 0 1"}, {"u1 (6/*) 2 none 2d", "abcdef", "(0)", ""}, {"u1 (6/*) 2 none 2d", "abcdef", "(0) (6)", "------"}, {"u1 (6/*) 2 none 2d", "abcdef", "(9)", "abcdef--- 0 1 2"}, {"u1 (6/*) 2 none 2d", "abcdef", "(9) (5) (7)", "abcde-- 0 1 2"}, {"u1 (5/*) 2 none 2d", "abcde", "(6)", "abcde- 0 1 2"}, {"u1 (5/*) 2 none 2d", "abcde", "(1) (2) (5)", "a---- 0"}, {"u1 (6/*) 2 none 2d", "abcdef", "(1) (0) (2)", "--"},
		{"u1 (3/*,3/*) 2,2 none 2d", "abcdefghi", "(3,3)", "abcdefghi 0 1 16 17"}, {"u1 (3/*,3/*) 2,2 none 2d", "abcdefghi", "(3,2)", "abdegh 0 16"}, {"u1 (3/*,3/*) 2,2 none 2d", "abcdefghi", "(2,3)", "abcdef 0 1"}, {"u1 (3/*,3/*) 2,2 none 2d", "abcdefghi", "(1,1)", "a 0"}, {"u1 (3/*,3/*) 2,2 none 2d", "abcdefghi", "(1,1) (3,3)", "a-------- 0"}, {"u1 (3/*,3/*) 2,2 none 2d", "abcdefghi", "(1,4)", "abc- 0 1"}, {"u1 (3/*,3/*) 2,2 none 2d", "abcdefghi", "(1,4) (3,3)", "abc------ 0 1"}, {"u1 (3/*,3/*) 2,2 none 2d", "abcdefghi", "(4,1)", "adg- 0 16"}, {"u1 (3/*,3/*) 2,2 none 2d", "abcdefghi", "(4,1) (3,3)", "a--d--g-- 0 16"}, {"u1 (3/*,3/*) 2,2 none 2d", "abcdefghi", "(0,3) (3,3)", "---------"}, {"u1 (3/*,3/*) 2,2 none 2d", "abcdefghi", "(3,0) (0,0) (3,3)", "---------"}, {"u1 (3/*,3/*) 2,2 none 2d", "abcdefghi", "(4,5)", "abc--def--ghi------- 0 1 16 17"}, {"u1 (3/*,3/*) 2,2 none 2d", "abcdefghi", "(2,4) (4,2) (3,3)", "ab-de---- 0"},
		{"u1 (2/*,2/*,2/*) 1,2,3 none 2d", "abcdefgh", "(1,2,4)", "ab--cd-- 0"}, {"u1 (2/*,2/*,2/*) 1,2,3 none 2d", "abcdefgh", "(2,1,1) (2,2,2)", "a---e--- 0 256"}, {"u1 (2/*,2/*,2/*) 1,2,3 none 2d", "abcdefgh", "(3,2,2)", "abcdefgh---- 0 256"}, {"u1 (2/*,2/*,2/*) 1,2,3 none 2d", "abcdefgh", "(2,0,2) (2,2,2)", "--------"},
		{"u1 (6/*) 2 run?+sum 2d", "abcdef", "(3) (6)", "abc--- 0 1"}, {"u1 (6/*) 40 lz 2d", "abcdef", "(3) (6)", "abc--- 0"}, {"u1 (3,3/*) 2,2 none 2d", "abcdefghi", "(2,2) (3,3)", "ab-de---- 0"}, {"u1 (3,3/5) 2,2 none 2d", "abcdefghi", "(3,5)", "abc--def--ghi-- 0 1 16 17"},
	} {
		p, at, d := storeOfSet(t, c.set, nil)
		p, code := checkWriteData(t, c.set, p, at, selectAll, d.Type, c.data)
		check(t, "WriteData", code, int64(impl.OK))
		p, _ = impl.Commit(p)
		check(t, shown(c.set, c.steps), sized(t, p, at, c.steps), c.want)
		// Some chunks have never been written.
		p, at, d = storeOfSet(t, c.set, nil)
		p, _ = impl.WriteData(p, at, pointsOf(make([]int64, len(d.Space.Dims))), d.Type, "x")
		sized(t, p, at, c.steps)
		check(t, "without chunks", strings.Trim(strings.Fields(" " + sized(t, first1(storeOfSet(t, c.set, nil)), at, c.steps) + " .")[0], "-."), "")
	}
}

func first1(p impl.Pager, at int64, d impl.Dataset) impl.Pager {
	return p
}

// Dimensions that a dataset cannot have.
func TestP23DimensionsThatAreRefused(t *testing.T) {
	for text, cases := range map[string]map[string]int64{
		"u1 (6/10) 2 none 2d":        {"10": impl.OK, "11": impl.ErrRange, "0": impl.OK, "-1": impl.ErrInvalid, "41": impl.ErrInvalid, "": impl.ErrRange, "6,6": impl.ErrRange, "6,1": impl.ErrRange},
		"u1 (6/*) 2 none 2d":         {"32": impl.OK, "33": impl.ErrRange, "40": impl.ErrRange, "41": impl.ErrInvalid},
		"u1 (6) 2 none 2d":           {"6": impl.OK, "7": impl.ErrRange, "5": impl.OK},
		"u1 () - none 2d":            {"": impl.OK, "1": impl.ErrRange, "0": impl.ErrRange, "1,1,1,1": impl.ErrInvalid},
		"u1 (5/*,3/*) 2,2 none 2d":   {"24,25": impl.OK, "25,25": impl.ErrInvalid, "5": impl.ErrRange, "5,3,1": impl.ErrRange, "32,3": impl.OK, "33,3": impl.ErrRange, "0,33": impl.ErrRange, "0,32": impl.OK, "0,0": impl.OK, "33,0": impl.ErrRange, "5,-3": impl.ErrInvalid, "-5,-3": impl.ErrInvalid},
		"u1 (8,8,4/*) 1,1,1 none 2d": {"8,8,4": impl.OK, "8,8,5": impl.ErrRange, "8,8,9": impl.ErrRange, "8,8,10": impl.ErrInvalid, "9,8,3": impl.ErrRange, "8,8,0": impl.OK, "0,8,16": impl.OK, "0,8,17": impl.ErrRange},
		"u1 (5/7,3/4) 2,2 none 2d":   {"7,4": impl.OK, "8,4": impl.ErrRange, "7,5": impl.ErrRange, "0,4": impl.OK, "0,5": impl.ErrRange},
	} {
		p, at, _ := storeOfSet(t, text, nil)
		for dims, want := range cases {
			_, code := checkResizeDataset(t, text, p, at, listOf(dims))
			check(t, shown(text, dims), code, want)
		}
		for _, dims := range oddLists() {
			checkResizeDataset(t, text, p, at, dims)
		}
		for _, n := range oddNumbers() {
			checkResizeDataset(t, text, p, at, []int64{n})
			checkResizeDataset(t, text, p, at, []int64{n, n})
			checkResizeDataset(t, text, p, at, []int64{5, n})
			checkResizeDataset(t, text, p, at, []int64{n, 3})
		}
	}
}

// Which pages change with the dimensions: the index is 68, the header 69, and the
// runs of the chunks 0, 1, 16 and 17 are 70 to 73.
func TestP23PagesThatAreWritten(t *testing.T) {
	for _, c := range []struct {
		set, dims string
		chunks    map[int64]string
		want      []int64
	}{
		{"3,3", "3,3", nil, nil}, {"3,3", "3,4", nil, []int64{69}}, {"3,3", "4,3", nil, []int64{69}}, {"3,3", "9,9", nil, []int64{69}}, {"3,3", "2,3", nil, []int64{66, 68, 69}}, {"3,3", "3,2", nil, []int64{66, 68, 69}}, {"3,3", "1,3", nil, []int64{66, 68, 69, 70, 71}}, {"3,3", "1,1", nil, []int64{66, 68, 69, 70}}, {"3,3", "0,3", nil, []int64{66, 68, 69}}, {"4,4", "3,4", nil, []int64{69, 72, 73}}, {"4,4", "4,3", nil, []int64{69, 71, 73}}, {"4,4", "3,3", nil, []int64{69, 71, 72, 73}}, {"4,4", "3,5", nil, []int64{69, 72, 73}}, {"4,4", "3,2", nil, []int64{66, 68, 69, 72}},
		// Elements that are lost are the fill value already: their chunk is written all the same.
		{"4,4", "3,4", map[int64]string{16: "ab--", 17: "----"}, []int64{69, 72, 73}},
		// Elements beyond the dimensions that are not the fill value come into the array, or do not.
		{"3,3", "3,4", map[int64]string{1: "axcx"}, []int64{69, 71}}, {"3,3", "3,4", map[int64]string{1: "a-cx"}, []int64{69, 71}}, {"3,3", "3,4", map[int64]string{17: "a-cx"}, []int64{69}}, {"3,3", "3,4", map[int64]string{17: "axcx"}, []int64{69, 73}}, {"3,3", "4,3", map[int64]string{17: "axcx"}, []int64{69, 73}}, {"3,3", "4,3", map[int64]string{17: "ax--"}, []int64{69}}, {"3,3", "4,4", map[int64]string{17: "a--x"}, []int64{69, 73}}, {"3,3", "3,3", map[int64]string{17: "axxx"}, nil}, {"3,3", "4,2", map[int64]string{16: "abxx"}, []int64{66, 68, 69, 72}}, {"3,3", "4,2", map[int64]string{16: "ab--"}, []int64{66, 68, 69}},
	} {
		p, at, d := storeOfSet(t, "u1 ("+strings.ReplaceAll(c.set, ",", "/*,")+"/*) 2,2 none 2d", map[int64]string{0: "abcd", 1: "e-g-", 16: "ij--", 17: "m---"})
		for _, key := range []int64{0, 1, 16, 17} {
			if data, ok := c.chunks[key]; ok {
				p, _ = impl.WriteChunk(p, at, key, data)
			}
		}
		p, _ = impl.Commit(p)
		after, code := checkResizeDataset(t, "pages", p, at, listOf(c.dims))
		check(t, shown("the pages", c), []any{code, dirtyBlocks(after)}, []any{int64(impl.OK), c.want})
		// Nothing comes back that was beyond the dimensions.
		a, _ := impl.ReadArray(p, at)
		want, _ := impl.ResizeArray(a, listOf(c.dims), d.Fill)
		got, code := checkReadArray(t, "pages", after, at)
		checkArray(t, shown("the array", c), got, code, want)
		again, code := checkResizeDataset(t, "pages", after, at, listOf("6,6"))
		want, _ = impl.ResizeArray(want, listOf("6,6"), d.Fill)
		check(t, "ResizeDataset", code, int64(impl.OK))
		got, code = checkReadArray(t, "pages", again, at)
		checkArray(t, shown("the array", c), got, code, want)
	}
}

// Entries for keys that are not, or not yet, those of chunks of the dataset.
func TestP23EntriesBeyondTheDimensions(t *testing.T) {
	for _, c := range []struct {
		key  int64
		at   int64
		size int64
		dims string
		code int64
		want string // the elements of the row 4 if the dimensions are 5, 3
	}{
		{33, 200, 4, "3,3", impl.OK, ""}, {33, 200, 4, "5,3", impl.OK, "---"}, {33, 200, 4, "5,2", impl.OK, ""}, {33, 200, 4, "4,4", impl.OK, ""}, {33, 200, 3, "4,4", impl.OK, ""}, {33, 200, 3, "5,3", impl.ErrCorrupt, ""}, {33, 66, 4, "5,3", impl.ErrCorrupt, ""}, {33, 66, 4, "3,3", impl.OK, ""}, {33, 66, 4, "5,2", impl.OK, ""}, {2, 200, 4, "3,5", impl.OK, ""}, {2, 200, 3, "3,4", impl.OK, ""}, {2, 200, 3, "3,5", impl.ErrCorrupt, ""},
		{256, 66, 4, "16,3", impl.OK, ""}, {4095, 66, 9, "5,3", impl.OK, ""}, {65535, 1, 65535, "5,3", impl.OK, "---"}, {288, 66, 4, "5,3", impl.OK, "---"}, {15, 66, 4, "5,3", impl.OK, "---"}, {1024, 66, 4, "0,0", impl.OK, ""}, {1024, 66, 4, "3,3", impl.OK, ""},
	} {
		p, at, d := storeOfSet(t, "u1 (3/*,3/*) 2,2 none 2d", map[int64]string{0: "abcd"})
		p = withEntry(t, p, d, chunkAt(c.key, c.at, c.size, 0), "")
		p = withPages(t, p, pageAt(200, "wxyz"+blockOf("\x00")[4:]))
		what := shown("beyond", c)
		after, code := checkResizeDataset(t, what, p, at, listOf(c.dims))
		check(t, what, code, c.code)
		checkFreeDataset(t, what, p, at)
		checkFreeDataset(t, what, markedStore(t, p, 200), at)
		if code != impl.OK {
			continue
		}
		_, isThere := entriesOf(t, after, at)[c.key]
		check(t, what, isThere, true)
		if c.want != "" {
			data, _ := checkReadData(t, what, after, at, slabOf([]int64{4, 0}, []int64{1, 1}, []int64{1, 3}, []int64{1, 1}), d.Type)
			check(t, what, data, c.want)
		}
	}
}

// An index that is not valid, for all functions.
func TestP23IndexesThatAreNotValid(t *testing.T) {
	base, at, d := storeOfSet(t, "u1 (4/*,3/*) 2,2 none 2d", map[int64]string{0: "abcd", 16: "efgh"})
	for what, p := range map[string]impl.Pager{
		"no node":        withPages(t, base, pageAt(68, blockOf("\x03"))),
		"an inner node":  withPages(t, base, pageAt(68, blockOfNode(innerOf([]int64{5}, []int64{68, 68})))),
		"not allocated":  withArea(base, 2, withBits(second(areaOf(base)), false, 68)),
		"a leaf too few": withPages(t, base, pageAt(68, blockOfNode(innerOf([]int64{5}, []int64{80, 81})))),
		"zero bytes":     withPages(t, base, pageAt(68, blockOf("\x00"))),
	} {
		_, _, code := checkReadChunk(t, what, p, d, 0)
		codes := append(setCodes(t, what, p, at)[1:], code)
		for _, dims := range []string{"4,3", "3,3", "2,3", "0,0", "9,9"} {
			_, code = checkResizeDataset(t, what, p, at, listOf(dims))
			codes = append(codes, code)
		}
		check(t, what, codes, slices.Repeat([]int64{impl.ErrCorrupt}, 12))
		_, code = checkOpenDataset(t, what, p, at)
		_, noneCode := checkReadData(t, what, p, at, selectNone, d.Type)
		_, writeCode := checkWriteData(t, what, p, at, selectNone, d.Type, "")
		check(t, what, []int64{code, noneCode, writeCode}, []int64{impl.OK, impl.OK, impl.OK})
		_, code = checkWriteChunk(t, what, p, at, 0, "abc")
		_, rangeCode := checkResizeDataset(t, what, p, at, []int64{4})
		check(t, what, []int64{code, rangeCode}, []int64{impl.ErrType, impl.ErrRange})
	}
	// A description with another index, or none.
	for _, index := range []int64{0, 1, 66, 67, 69, 70, 255} {
		d.Index = index
		_, _, code := checkReadChunk(t, "another index", base, d, 0)
		_, _, keyCode := checkReadChunk(t, "another index", base, d, 2)
		check(t, shown("another index", index), []int64{code, keyCode}, []int64{impl.ErrCorrupt, impl.ErrRange})
	}
}

func second(k int64, s string) string {
	return s
}

// Every combination of the causes of an error of the functions of an object.
func TestP23OrderOfErrors(t *testing.T) {
	codes := map[string]int{}
	text := "enum(u1,A=0,B=65,C=66,D=67) (4/6,4/*) 2,2 run?+sum 41"
	base, at, d := storeOfSet(t, text, map[int64]string{0: "ABCA", 1: "AAAA", 17: "CCCC"})
	for bits := range 1 << 11 {
		p, object, of, key := base, at, d.Type, int64(1)
		s, data, chunk, dims := slabOf([]int64{1, 1}, []int64{1, 1}, []int64{2, 2}, []int64{1, 1}), "ABCA", "AABB", []int64{3, 3}
		var full, invalid bool
		for i, cause := range []func(){
			func() { full = true },
			func() { p = withEntry(t, p, d, chunkAt(1, 250, 8, 0), "AAAA....") },
			func() { p = withEntry(t, p, d, chunkAt(17, 250, 9, 0), "") },
			func() { of, data = intType(1, false, false), "ABC\x01" },
			func() { p = withPages(t, p, pageAt(d.Index, blockOf("x"))) },
			func() { data, chunk = data+"A", "A" },
			func() { of = textType(1) },
			func() { s, key, dims = pointsOf([]int64{4, 0}), 2, []int64{7, 3} },
			func() { object = 67 },
			func() { object = 2 },
			func() { of, dims, invalid = impl.Type{}, []int64{-1, 3}, true },
		} {
			if bits>>i&1 == 1 {
				cause()
			}
		}
		if full {
			p.Dirty = mergedPages(p.Dirty, pagesAt("dirty", numbersFrom(256-int64(mostDirty(p.Super)-len(p.Dirty)), 255)...))
		}
		if invalid && bits%3 == 0 {
			p.At = 65
		}
		what := shown("errors", bits)
		count := func(name string, code int64) { codes[shown(name, code)]++ }
		_, code := checkWriteData(t, what, p, object, s, of, data)
		count("write", code)
		_, code = checkReadData(t, what, p, object, s, of)
		count("read", code)
		_, code = checkWriteChunk(t, what, p, object, key, chunk)
		count("put", code)
		described := d
		if invalid {
			described.Index = 256
		}
		_, _, code = checkReadChunk(t, what, p, described, key)
		count("get", code)
		_, code = checkResizeDataset(t, what, p, object, dims)
		count("resize", code)
		_, code = checkResizeDataset(t, what, p, object, []int64{3, 1})
		count("resize", code)
		_, code = checkReadArray(t, what, p, object)
		count("array", code)
		_, code = checkFreeDataset(t, what, p, object)
		count("free", code)
		_, code = checkOpenDataset(t, what, p, object)
		count("open", code)
	}
	for name, list := range map[string][]int64{"write": {0, 1, 2, 5, 7, 8, 9, 10}, "read": {0, 1, 2, 7, 9, 10}, "put": {0, 1, 2, 5, 7, 10}, "get": {0, 1, 2, 9, 10}, "resize": {0, 1, 2, 5, 7, 9, 10}, "array": {0, 1, 7, 9, 10}, "free": {0, 1, 5, 7, 10}, "open": {0, 1, 7, 10}} {
		for _, code := range list {
			if codes[shown(name, code)] == 0 {
				t.Errorf("none of %s %d: %v", name, code, codes)
			}
		}
	}
}

// Names that are none or taken, and groups that are none.
func TestP23NamesOfDatasets(t *testing.T) {
	p := storeIn(t, "40 group 1 a=60 g=50 s>/a; 50 group 1; 60 virtual 1")
	d := setOf(t, byteSet)
	for _, name := range append(oddStrings(), "s", "g", "new", "abcdefghijkl", "abcdefghijklm", "/", "/a", "new/") {
		for parent, want := range map[int64]int64{40: impl.OK, 50: impl.OK, 60: impl.ErrType, 41: impl.ErrCorrupt, 0: impl.ErrCorrupt, -1: impl.ErrCorrupt} {
			switch {
			case !nameForm.MatchString(name):
				want = impl.ErrInvalid
			case parent == 40 && (name == "a" || name == "s" || name == "g"):
				want = impl.ErrExists
			}
			after, at, code := checkCreateDataset(t, "names", p, parent, name, d)
			check(t, shown("CreateDataset", parent, name), []any{code, at != 0}, []any{want, want == impl.OK})
			if code == impl.OK {
				checkClean(t, "names", after)
				f, _ := folderIn(after, parent)
				link, ok := f.link(name)
				check(t, "the link", []any{link, ok}, []any{hard(name, at), true})
			}
		}
	}
}

// Every combination of the causes of an error of CreateDataset.
func TestP23OrderOfErrorsOfCreateDataset(t *testing.T) {
	codes := map[int64]int{}
	for bits := range 1 << 11 {
		root, links, parent, name, d := int64(40), []impl.Link{hard("a", 60), soft("b", pathOfLength(78)), soft("c", pathOfLength(73))}, int64(50), "new", setOf(t, byteSet)
		invalid, dirty, free, many := false, 0, 20, 0
		for i, cause := range []func(){
			func() { dirty = 25 }, func() { free = 1 }, func() { links[2].Path = pathOfLength(78); name = "abcdefghijkl" }, func() { many = 21 }, func() { root = 61 }, func() { links = manyLinks(12) }, func() { name = "a" }, func() { parent = 60 }, func() { name = "-" }, func() { d.Index = 1 }, func() { invalid = true },
		} {
			if bits>>i&1 == 1 {
				cause()
			}
		}
		if bits%5 == 0 && d.Index == 1 {
			d.Index, d.Fill = 0, ""
		}
		above := []impl.Link{hard("x", 50)}
		things := []thing{{50, folderHeader(1, links...)}, thingIn("60 virtual 1")}
		for i := range many {
			things = append(things, thing{62 + int64(i), headerOf(impl.ObVirtual, 1)})
		}
		if many > 0 {
			var low, high []impl.Link
			for i := range int64(many) {
				if i < 10 {
					low = append(low, hard(fmt.Sprintf("n%02d", i), 62+i))
				} else {
					high = append(high, hard(fmt.Sprintf("n%02d", i), 62+i))
				}
			}
			above = append(low, hard("x", 50), hard("y", 61))
			slices.SortFunc(above, func(a, b impl.Link) int { return strings.Compare(a.Name, b.Name) })
			things = append(things, thing{61, folderHeader(1, high...)})
		}
		p := storeWith(t, root, append(things, thing{40, folderHeader(1, above...)})...)
		runs := freeIn(p)
		_, area := areaOf(p)
		for _, run := range runs {
			area = withBits(area, true, numbersFrom(run.At, run.At+run.Count-1)...)
		}
		p = withArea(p, 0, withBits(area, false, numbersFrom(90, 89+min(8, int64(free)))...))
		p = withPages(t, p, pagesAt("dirty", numbersFrom(33, 32+int64(dirty))...)...)
		if invalid {
			p.At = 31
		}
		_, _, code := checkCreateDataset(t, shown("errors", bits), p, parent, name, d)
		codes[code]++
	}
	for _, code := range []int64{impl.OK, impl.ErrInvalid, impl.ErrExists, impl.ErrFull, impl.ErrType, impl.ErrCorrupt} {
		if codes[code] == 0 {
			t.Errorf("none of %d: %v", code, codes)
		}
	}
}

// setRoomCodes returns the codes of changes of a dataset of bytes with the chunks
// 0, 1 and 16, and of the group 67 that it is in.
func setRoomCodes(t *testing.T, what string, p impl.Pager, at int64) []int64 {
	t.Helper()
	_, _, code := checkCreateDataset(t, what, p, 67, "new", setOf(t, byteSet))
	codes := []int64{code}
	_, code = checkWriteChunk(t, what, p, at, 0, "wxyz")
	codes = append(codes, code)
	_, code = checkWriteChunk(t, what, p, at, 17, "wxyz")
	codes = append(codes, code)
	_, code = checkWriteData(t, what, p, at, selectAll, intType(1, false, false), strings.Repeat("x", 12))
	codes = append(codes, code)
	_, code = checkResizeDataset(t, what, p, at, []int64{4, 4})
	codes = append(codes, code)
	_, code = checkResizeDataset(t, what, p, at, []int64{3, 3})
	codes = append(codes, code)
	_, code = checkResizeDataset(t, what, p, at, []int64{1, 3})
	codes = append(codes, code)
	_, code = checkFreeDataset(t, what, p, at)
	codes = append(codes, code)
	_, code = checkRemoveLink(t, what, p, 67, "set")
	return append(codes, code)
}

// Transactions with little room, and stores with few free blocks.
func TestP23StoresWithLittleRoom(t *testing.T) {
	base, at, _ := storeOfSet(t, byteSet, map[int64]string{0: "abcd", 1: "e-g-", 16: "ijkl"})
	check(t, "places", placesText(t, base, at), "0:70-70 1:71-71 16:72-72")
	most := mostDirty(base.Super)
	for room, codes := 0, []int64{}; room < 9; room++ {
		p := base
		p.Dirty = pagesAt("dirty", numbersFrom(256-int64(most-room), 255)...)
		codes = setRoomCodes(t, shown("room", room), p, at)
		// The pages are those of the allocation, the index, the header, the runs and the group.
		for i, needed := range []int{4, 1, 3, 6, 1, 2, 5, 1, 3} {
			check(t, shown("room", room, i), []bool{codes[i] == impl.OK, codes[i] == impl.ErrFull}, []bool{needed <= room, needed > room})
		}
		// Pages that are in the transaction already need no room.
		for _, k := range []int64{66, 67, 68, 69, 70, 72} {
			if len(p.Dirty) > 0 {
				p.Dirty = mergedPages(p.Dirty[1:], []impl.Page{pageAt(k, inDirty(base, k))})
				setRoomCodes(t, shown("room", room, k), p, at)
			}
		}
	}
	for free := range int64(5) {
		p := markedStore(t, base, numbersFrom(73, 255-free)...)
		codes := setRoomCodes(t, shown("free", free), p, at)
		for i, needed := range []int64{2, 0, 1, 1, 0, 0, 0, 0, 0} {
			check(t, shown("free", free, i), []bool{codes[i] == impl.OK, codes[i] == impl.ErrFull}, []bool{needed <= free, needed > free})
		}
	}
	// Nodes of the index that are split, and a root that changes.
	eight, at, d := storeOfSet(t, "u1 (16/*) 1 none 2d", nil)
	eight, _ = impl.WriteData(eight, at, slabOfOne(0, 8, 1, 8), d.Type, "abcdefgh")
	nine, _ := impl.WriteChunk(eight, at, 8, "i")
	eight, _ = impl.Commit(eight)
	nine, _ = impl.Commit(nine)
	for room := range 9 {
		p := eight
		p.Dirty = pagesAt("dirty", numbersFrom(256-int64(most-room), 255)...)
		_, code := checkWriteChunk(t, "root", p, at, 8, "i")
		_, againCode := checkWriteChunk(t, "root", p, at, 7, "i")
		p = nine
		p.Dirty = pagesAt("dirty", numbersFrom(256-int64(most-room), 255)...)
		_, sizeCode := checkResizeDataset(t, "root", p, at, []int64{7})
		check(t, shown("root with room", room), []bool{code == impl.OK, againCode == impl.OK, sizeCode == impl.OK}, []bool{room >= 6, room >= 1, room >= 4})
		if free := int64(room); free < 6 {
			_, code := checkWriteChunk(t, "root", markedStore(t, eight, numbersFrom(78, 255-free)...), at, 8, "i")
			check(t, shown("root with free blocks", free), code == impl.OK, free >= 3)
		}
	}
}

// Runs that share blocks with the header, the index, other runs or the root group.
// These stores are not clean; this is what the steps of the document make of them.
func TestP23SharedBlocks(t *testing.T) {
	base, at, d := storeOfSet(t, "u1 (12/*) 1 none 2d", nil)
	base, _ = impl.WriteData(base, at, slabOfOne(0, 8, 1, 8), d.Type, "abcdefgh")
	base, _ = impl.Commit(base)
	both := slabOfOne(0, 2, 1, 2)
	// The header is the one that was read at the beginning, although the first chunk has been written over it.
	over := withEntry(t, base, d, chunkAt(0, at, 1, 0), "")
	p, code := checkWriteData(t, "the header", over, at, both, d.Type, "xy")
	_, openCode := impl.OpenDataset(p, at)
	check(t, "the header", []int64{code, openCode}, []int64{impl.OK, impl.ErrCorrupt})
	// It cannot be written when the root changes.
	_, code = checkWriteData(t, "the header", over, at, slabOfOne(0, 8, 2, 1), d.Type, "xy")
	_, otherCode := checkWriteData(t, "the header", base, at, slabOfOne(0, 8, 2, 1), d.Type, "xy")
	check(t, "another root", []int64{code, otherCode}, []int64{impl.ErrCorrupt, impl.OK})
	// It is written when the root changes, and not again with the next chunk, which is written over it.
	p, root, _, _ := impl.DeleteChunk(base, d.Index, 7)
	p, root, _ = impl.InsertChunk(p, root, chunkAt(9, at, 1, 0))
	check(t, "eight chunks", root, d.Index)
	_, code = checkWriteData(t, "another root before", p, at, slabOfOne(8, 2, 1, 2), d.Type, "xy")
	_, otherCode = checkWriteData(t, "another root behind", p, at, pointsOf([]int64{9}, []int64{8}, []int64{10}), d.Type, "xyz")
	_, lastCode := checkWriteData(t, "another root behind", p, at, slabOfOne(9, 2, 1, 2), d.Type, "xy")
	check(t, "another root", []int64{code, otherCode, lastCode}, []int64{impl.OK, impl.OK, impl.ErrCorrupt})
	// Dimensions that change write the header at the end.
	_, code = checkResizeDataset(t, "the header", withEntry(t, over, d, chunkAt(7, at, 1, 0), ""), at, []int64{7})
	_, otherCode = checkResizeDataset(t, "the header", over, at, []int64{7})
	check(t, "a run in the header that is released", []int64{code, otherCode}, []int64{impl.ErrCorrupt, impl.OK})
	// The index is not valid any more.
	over = withEntry(t, base, d, chunkAt(0, d.Index, 1, 0), "")
	_, code = checkWriteChunk(t, "the index", over, at, 0, "x")
	_, dataCode := checkWriteData(t, "the index", over, at, both, d.Type, "xy")
	_, freeCode := checkFreeDataset(t, "the index", over, at)
	check(t, "the index", []int64{code, dataCode, freeCode}, []int64{impl.ErrCorrupt, impl.ErrCorrupt, impl.ErrCorrupt})
	over = withEntry(t, base, d, chunkAt(7, d.Index, 1, 0), "")
	_, code = checkResizeDataset(t, "the index", over, at, []int64{7})
	_, sameCode := checkResizeDataset(t, "the index", over, at, []int64{8})
	check(t, "the index that a lost chunk releases", []int64{code, sameCode}, []int64{impl.ErrCorrupt, impl.OK})
	// Runs that are released twice, or are not allocated, or not all data blocks.
	for what, c := range map[string]impl.Chunk{"the run of another chunk": chunkAt(7, 73, 1, 0), "a part of another run": chunkAt(7, 76, 128, 0), "not allocated": chunkAt(7, 200, 1, 0), "not all allocated": chunkAt(7, 77, 65, 0), "not all data blocks": chunkAt(7, 255, 65, 0), "no data block": chunkAt(7, 66, 1, 0), "too many blocks": chunkAt(7, 77, 65535, 0), "the root group": chunkAt(7, 67, 1, 0)} {
		over = withEntry(t, base, d, c, "")
		p, freeCode := checkFreeDataset(t, what, over, at)
		_, sizeCode := checkResizeDataset(t, what, over, at, []int64{7})
		_, code := checkWriteChunk(t, what, over, at, 7, "x")
		want := []int64{impl.ErrCorrupt, impl.ErrCorrupt, impl.ErrCorrupt}
		switch {
		case what == "the root group":
			want = make([]int64, 3)
			check(t, what, impl.IsAllocated(p, 67), false)
		case what == "the run of another chunk" || what == "a part of another run":
			// Only the last of them finds blocks that are free already.
			want[1], want[2] = impl.OK, impl.OK
		case what == "not allocated":
			want[2] = impl.OK
		}
		check(t, what, []int64{freeCode, sizeCode, code}, want)
	}
}

// The header is written when all chunks are, even if the root of the index has
// changed before: a chunk that cannot be read comes before a header without room.
func TestP23HeadersAreWrittenAtTheEnd(t *testing.T) {
	p, at, d := storeOfSet(t, "u1 (9/*,2/*) 1,2 none 2d", nil)
	p, _ = impl.WriteData(p, at, selectAll, d.Type, "abcdefghijklmnopqr")
	p, _ = impl.Commit(p)
	d, _ = impl.OpenDataset(p, at)
	bad := withEntry(t, p, d, chunkAt(16, entriesOf(t, p, at)[16].At, 2, 1), "")
	bad, _ = impl.Commit(bad)
	for room := range 9 {
		dirty := pagesAt("dirty", numbersFrom(256-int64(mostDirty(p.Super)-room), 255)...)
		p.Dirty, bad.Dirty = dirty, dirty
		_, code := checkResizeDataset(t, "without room", bad, at, []int64{7, 1})
		_, longCode := checkResizeDataset(t, "without room", bad, at, []int64{7, 2})
		_, otherCode := checkResizeDataset(t, "without room", p, at, []int64{7, 2})
		// The allocation page, two leaves, the run of the chunk 0, and the header.
		want := []int64{impl.ErrCorrupt, impl.OK, impl.OK}
		if room < 4 {
			want = []int64{impl.ErrFull, impl.ErrFull, impl.ErrFull}
		}
		check(t, shown("ResizeDataset with room", room), []int64{code, longCode, otherCode}, want)
	}
}

// Drawn damage: bytes, pages, entries and the allocation of a store with datasets.
func TestP23DamagedStores(t *testing.T) {
	m := newTypeMaker(159)
	codes := map[string]int{}
	for range 2500 {
		p, root := rooted(t, 90, 30)
		d := m.drawSet()
		for elements := volume(d.Space.Dims); elements < 1 || elements > 100; elements = volume(d.Space.Dims) {
			d = m.drawSet()
		}
		if m.IntN(2) == 0 {
			d.Filters = []impl.Filter{filter(5, 0)}
		}
		p, at, code := impl.CreateDataset(p, root, "set", d)
		check(t, "CreateDataset", code, int64(impl.OK))
		p, _ = impl.Commit(p)
		for range m.IntN(3) {
			s := m.drawSelection(d.Space.Dims)
			if after, code := impl.WriteData(p, at, s, d.Type, m.drawData(d.Type, impl.SelectedCount(d.Space.Dims, s))); code == impl.OK {
				p, _ = impl.Commit(after)
			}
		}
		d, _ = impl.OpenDataset(p, at)
		for range m.IntN(3) {
			p = m.damage(p, at, d)
		}
		if m.IntN(3) == 0 {
			p = m.fillUp(p)
		}
		count := func(name string, code int64) { codes[shown(name, code)]++ }
		_, code = checkOpenDataset(t, "damaged", p, at)
		count("open", code)
		s := m.drawSelection(d.Space.Dims)
		_, code = checkReadData(t, "damaged", p, at, s, d.Type)
		count("read", code)
		_, code = checkWriteData(t, "damaged", p, at, s, d.Type, m.drawData(d.Type, impl.SelectedCount(d.Space.Dims, s)))
		count("write", code)
		keys := append(tileKeys(tilesOf(d.Space.Dims, d.Chunk)), m.between(-1, 300))
		key := keys[m.IntN(len(keys))]
		_, _, code = checkReadChunk(t, "damaged", p, d, key)
		count("get", code)
		_, code = checkWriteChunk(t, "damaged", p, at, key, m.drawData(d.Type, volume(d.Chunk)))
		count("put", code)
		_, code = checkResizeDataset(t, "damaged", p, at, m.drawFresh(d.Space.Dims, d.Chunk))
		count("resize", code)
		_, code = checkFreeDataset(t, "damaged", p, at)
		count("free", code)
		_, code = checkReadArray(t, "damaged", p, at)
		count("array", code)
	}
	for _, name := range []string{"open 0", "open 7", "open 10", "read 0", "read 9", "read 10", "write 0", "write 5", "write 10", "get 0", "get 9", "get 10", "put 0", "put 5", "put 10", "resize 0", "resize 2", "resize 5", "resize 10", "free 0", "free 5", "free 10", "array 0", "array 10"} {
		if codes["["+name+"]"] < 5 {
			t.Errorf("too few of %s: %v", name, codes)
		}
	}
}

// damage returns a store in which something is different: a byte of the header,
// of the index or of a run, a whole page, an entry of the index, or which blocks
// are allocated.
func (m typeMaker) damage(p impl.Pager, at int64, d impl.Dataset) impl.Pager {
	chunks, _ := impl.ChunksOf(p, d.Index)
	used := []int64{at, d.Index, d.Index, at}
	for _, c := range chunks {
		used = append(used, min(c.At+m.between(0, 2), p.Super.Blocks-1))
	}
	k := used[m.IntN(len(used))]
	page := []byte(inDirty(p, k))
	switch m.IntN(6) {
	case 0, 1:
		page[[]int{0, 2, 4, 5, 7, m.IntN(64), m.IntN(64)}[m.IntN(7)]] = []byte{0, 1, 2, byte(m.IntN(256)), byte(at)}[m.IntN(5)]
	case 2:
		page = []byte(inDirty(p, used[m.IntN(len(used))]))
	case 3:
		_, area := areaOf(p)
		return withArea(p, m.IntN(3), withBits(withBits(area, true, k), false, k))
	default:
		if len(chunks) == 0 {
			return p
		}
		c := chunks[m.IntN(len(chunks))]
		switch m.IntN(3) {
		case 0:
			c.At = []int64{at, d.Index, 33, 32, 89, m.between(1, 100), chunks[0].At}[m.IntN(7)]
		case 1:
			c.Size = []int64{0, c.Size + 1, max(0, c.Size-1), 64, 1100, 1101, m.between(0, 65535)}[m.IntN(7)]
		default:
			c.Mask = m.between(0, 20)
		}
		if after, _, code := impl.InsertChunk(p, d.Index, c); code == impl.OK {
			return after
		}
		return p
	}
	after, _ := impl.SetPage(p, k, string(page))
	return after
}

// fillUp returns a store with few free blocks, or a transaction with little room.
func (m typeMaker) fillUp(p impl.Pager) impl.Pager {
	if m.IntN(2) == 0 {
		for k := p.Super.Log + 3; k < p.Super.Blocks && len(p.Dirty) < mostDirty(p.Super)-m.IntN(3); k++ {
			p.Dirty = mergedPages(p.Dirty, []impl.Page{pageAt(k, inDirty(p, k))})
		}
		return p
	}
	_, area := areaOf(p)
	for _, run := range freeIn(p) {
		for k := run.At; k < run.At+run.Count; k++ {
			if m.IntN(8) > 0 {
				area = withBits(area, true, k)
			}
		}
	}
	return withArea(p, 0, area)
}

// library is a store with what is known of its datasets, which are in two groups.
type library struct {
	t      *testing.T
	m      typeMaker
	p      impl.Pager
	groups []int64
	links  map[int64]map[string]int64
	sets   map[int64]*plainArray
	// The datasets in which WriteChunk has written elements beyond the dimensions.
	untidy map[int64]bool
	codes  map[string]int
}

func newLibrary(t *testing.T, m typeMaker, codes map[string]int) *library {
	t.Helper()
	p, root := rooted(t, []int64{60, 90, 256}[m.IntN(3)], []int64{14, 24, 48}[m.IntN(3)])
	p, group, code := checkCreateGroup(t, "history", p, root, "group")
	check(t, "CreateGroup", code, int64(impl.OK))
	p, _ = impl.Commit(p)
	return &library{t, m, p, []int64{root, group}, map[int64]map[string]int64{root: {"group": group}, group: {}}, map[int64]*plainArray{}, map[int64]bool{}, codes}
}

func (x *library) place() *impl.Pager {
	return &x.p
}

// copied returns a library that changes of this one do not affect.
func (x *library) copied() *library {
	other := *x
	other.links, other.sets, other.untidy = map[int64]map[string]int64{}, map[int64]*plainArray{}, maps.Clone(x.untidy)
	for at, links := range x.links {
		other.links[at] = maps.Clone(links)
	}
	for at, a := range x.sets {
		other.sets[at] = a.copied()
	}
	return &other
}

// act makes one drawn change, and takes it over if it succeeds.
func (x *library) act() {
	group, name := x.groups[x.m.IntN(2)], []string{"a", "b", "c", "d", "e"}[x.m.IntN(5)]
	all := slices.Sorted(maps.Keys(x.sets))
	if len(all) == 0 || len(all) < 3 && x.m.IntN(8) == 0 {
		x.create(group, name)
		return
	}
	at := all[x.m.IntN(len(all))]
	switch kind := x.m.IntN(20); {
	case kind < 1:
		p, code := checkAddLink(x.t, "history", x.p, group, name, at)
		x.codes[shown("link", code)]++
		if code == impl.OK {
			x.p, x.links[group][name] = p, at
		}
	case kind < 3:
		x.remove(group, name)
	case kind < 9:
		x.resize(at)
	case kind < 11:
		x.writeChunk(at)
	default:
		x.write(at)
	}
}

func (x *library) create(group int64, name string) {
	d := x.m.drawSet()
	for volume(d.Space.Dims) > 100 {
		d = x.m.drawSet()
	}
	for i := range d.Space.Max {
		if x.m.IntN(3) > 0 {
			d.Space.Max[i] = -1
		}
	}
	p, at, code := checkCreateDataset(x.t, "history", x.p, group, name, d)
	x.codes[shown("create", code)]++
	if code == impl.OK {
		x.p, x.links[group][name], x.sets[at] = p, at, plainOf(d)
	}
}

func (x *library) remove(group int64, name string) {
	p, code := checkRemoveLink(x.t, "history", x.p, group, name)
	x.codes[shown("remove", code)]++
	if code != impl.OK {
		return
	}
	at := x.links[group][name]
	delete(x.links[group], name)
	x.p = p
	for _, links := range x.links {
		for _, target := range links {
			if target == at {
				return
			}
		}
	}
	x.codes["deleted"]++
	delete(x.sets, at)
	delete(x.untidy, at)
}

func (x *library) resize(at int64) {
	d, _ := impl.OpenDataset(x.p, at)
	dims := x.m.drawFresh(d.Space.Dims, d.Chunk)
	for range 9 {
		if volume(dims) > 100 || !isSpace(space(dims, d.Space.Max)) {
			dims = x.m.drawFresh(d.Space.Dims, d.Chunk)
		}
	}
	p, code := checkResizeDataset(x.t, "history", x.p, at, dims)
	x.codes[shown("resize", code)]++
	if code != impl.OK {
		return
	}
	x.p = p
	if !slices.Equal(dims, d.Space.Dims) {
		x.codes["changed"]++
	}
	x.sets[at].resize(dims)
}

// writeChunk writes all elements of a chunk, also those beyond the dimensions.
func (x *library) writeChunk(at int64) {
	d, _ := impl.OpenDataset(x.p, at)
	tiles := tilesOf(d.Space.Dims, d.Chunk)
	keys := tileKeys(tiles)
	if len(keys) == 0 {
		return
	}
	key := keys[x.m.IntN(len(keys))]
	data := x.m.drawData(d.Type, volume(d.Chunk))
	p, code := checkWriteChunk(x.t, "history", x.p, at, key, data)
	x.codes[shown("chunk", code)]++
	if code != impl.OK {
		return
	}
	x.p, x.untidy[at] = p, true
	size := sizeOf(d.Type)
	for _, e := range tiles {
		if e.key == key {
			x.sets[at].elements[numbersText(e.at)] = data[e.number*size:][:size]
		}
	}
}

func (x *library) write(at int64) {
	d, _ := impl.OpenDataset(x.p, at)
	s := x.m.drawSelection(d.Space.Dims)
	data := x.m.drawData(d.Type, impl.SelectedCount(d.Space.Dims, s))
	p, code := checkWriteData(x.t, "history", x.p, at, s, d.Type, data)
	x.codes[shown("write", code)]++
	if code == impl.OK {
		x.p = p
		x.sets[at].put(s, data)
	}
}

// checkAll checks what all datasets contain, that Refs are the numbers of links,
// and that the blocks of all objects are exactly those that are allocated.
func (x *library) checkAll() {
	x.t.Helper()
	for at, a := range x.sets {
		if x.untidy[at] {
			got, code := impl.ReadArray(x.p, at)
			checkArray(x.t, "history", got, code, a.array())
		} else {
			checkPlain(x.t, "history", x.p, at, a)
		}
	}
	for group, links := range x.links {
		var want []impl.Link
		for _, name := range slices.Sorted(maps.Keys(links)) {
			want = append(want, hard(name, links[name]))
		}
		checkOnlyLinks(x.t, "history", x.p, group, want...)
	}
	checkClean(x.t, "history", x.p)
}

// Histories of several datasets in one store, with transactions that are abandoned
// and power cuts behind a synchronization: they contain what plain arrays contain.
func TestP23Histories(t *testing.T) {
	m := newTypeMaker(160)
	codes := map[string]int{}
	for range 60 {
		runHistory(t, m, newLibrary(t, m, codes), 60, 30, 10)
	}
	for _, name := range []string{"[create 0]", "[link 0]", "[remove 0]", "deleted", "[resize 0]", "changed", "[chunk 0]", "[write 0]", "[write 5]"} {
		if codes[name] < 10 {
			t.Errorf("too few of %s: %v", name, codes)
		}
	}
	for name := range codes {
		// All else that may happen is known before.
		if !slices.Contains([]string{"deleted", "changed", "[create 0]", "[create 4]", "[create 5]", "[link 0]", "[link 4]", "[link 5]", "[remove 0]", "[remove 3]", "[remove 5]", "[resize 0]", "[resize 2]", "[resize 5]", "[chunk 0]", "[chunk 5]", "[write 0]", "[write 5]"}, name) {
			t.Errorf("a code that is not expected: %s", name)
		}
	}
}

// datasetResults returns what all functions of the chapter return.
func datasetResults(p impl.Pager, at, key int64, name, data string, d, other impl.Dataset, s impl.Selection, of impl.Type, dims []int64) []any {
	created, object, createdCode := impl.CreateDataset(p, at, name, d)
	opened, openedCode := impl.OpenDataset(p, at)
	chunk, found, chunkCode := impl.ReadChunk(p, d, key)
	put, putCode := impl.WriteChunk(p, at, key, data)
	read, readCode := impl.ReadData(p, at, s, of)
	written, writtenCode := impl.WriteData(p, at, s, of, data)
	resized, resizedCode := impl.ResizeDataset(p, at, dims)
	array, arrayCode := impl.ReadArray(p, at)
	freed, freedCode := impl.FreeDataset(p, at)
	return []any{impl.ValidDataset(d), impl.SameDataset(d, other), created, object, createdCode, opened, openedCode, chunk, found, chunkCode, put, putCode, read, readCode, written, writtenCode, resized, resizedCode, array, arrayCode, freed, freedCode}
}

func TestP1DatasetsReturnForAllArguments(t *testing.T) {
	numbers, texts, lists := oddNumbers(), oddStrings(), oddLists()
	base, at, d := storeOfSet(t, "u2 (4/*,3/*) 2,2 run?+sum 0900", map[int64]string{0: "abcdefgh", 17: "ijklmnop"})
	damaged := withEntry(t, withEntry(t, base, d, chunkAt(1, at, 12, 0), ""), d, chunkAt(16, d.Index, 7, 1), "")
	pagers := append(badPagers(), fullPager(), base, damaged, withEntry(t, base, d, chunkAt(17, 255, 65535, 255), ""))
	types, selections := append(endingBadTypes(), allInts()...), append(illFormed(), selectAll, selectNone, pointsOf([]int64{0, 0}), pointsOf([]int64{3, 2}, []int64{3, 2}))
	for i, number := range numbers {
		wild := impl.Dataset{Type: types[i%len(types)], Space: space(lists[i%len(lists)], lists[i*3%len(lists)]), Chunk: lists[i*5%len(lists)], Filters: []impl.Filter{{Kind: number, Param: numbers[i*7%len(numbers)]}}, Fill: texts[i*3%len(texts)], Index: number}
		name, data, of, s, dims := texts[i*11%len(texts)], strings.Repeat(texts[i*13%len(texts)], i*37%200), types[i*3%len(types)], selections[i*7%len(selections)], lists[i*11%len(lists)]
		for _, p := range append(pagers[len(pagers)-4:], pagers[i*5%len(pagers)]) {
			for _, c := range []struct {
				at, key int64
				d       impl.Dataset
			}{{number, number, wild}, {at, number, d}, {at, []int64{0, 1, 16, 17}[i%4], wild}, {[]int64{67, 68, 69, 70}[i%4], []int64{0, 1, 16, 17}[i/4%4], d}} {
				first := shown(datasetResults(p, c.at, c.key, name, data, c.d, d, s, of, dims)...)
				second := shown(datasetResults(roomyPager(p), c.at, c.key, name, strings.Clone(data), roomySet(c.d), roomySet(d), roomySelection(s), roomy(of), roomyList(dims))...)
				checkShown(t, "second call", second, first)
			}
		}
	}
	long := strings.Repeat("\x01\x02", 1<<20)
	for _, data := range []string{long, long[1:]} {
		_, code := impl.WriteChunk(base, at, 0, data)
		_, dataCode := impl.WriteData(base, at, selectAll, d.Type, data)
		check(t, "long data", []int64{code, dataCode}, []int64{impl.ErrType, impl.ErrType})
	}
}

func TestP1DatasetsOfTypesThatContainThemselves(t *testing.T) {
	withSmallStack(func() {
		p, at, d := storeOfSet(t, byteSet, nil)
		for _, of := range badTypes() {
			d.Type, d.Index = of, 0
			_, object, code := impl.CreateDataset(p, 67, "new", d)
			_, found, chunkCode := impl.ReadChunk(p, d, 0)
			data, readCode := impl.ReadData(p, at, selectAll, of)
			_, writeCode := impl.WriteData(p, at, selectAll, of, "")
			check(t, "codes", []any{impl.ValidDataset(d), object, code, found, chunkCode, data, readCode, writeCode}, []any{false, int64(0), int64(impl.ErrInvalid), false, int64(impl.ErrInvalid), "", int64(impl.ErrInvalid), int64(impl.ErrInvalid)})
			check(t, "SameDataset", []bool{impl.SameDataset(d, d), impl.SameDataset(d, setOf(t, byteSet))}, []bool{true, false})
		}
	})
}

func TestP1DatasetsAreNotModified(t *testing.T) {
	m := newTypeMaker(161)
	for range 150 {
		p, root := rooted(t, 120, 40)
		d := m.drawSet()
		for volume(d.Space.Dims) > 100 {
			d = m.drawSet()
		}
		p, at, code := impl.CreateDataset(p, root, "set", d)
		check(t, "CreateDataset", code, int64(impl.OK))
		p, _ = impl.Commit(p)
		s := m.drawSelection(d.Space.Dims)
		data := m.drawData(d.Type, impl.SelectedCount(d.Space.Dims, s))
		if after, code := impl.WriteData(p, at, m.drawSelection(d.Space.Dims), d.Type, ""); code == impl.OK {
			p = after
		}
		if after, code := impl.WriteData(p, at, s, d.Type, data); code == impl.OK {
			p = after
		}
		if m.IntN(2) == 0 {
			p, _ = impl.Commit(p)
		}
		p, dims := roomyPager(p), roomyList(m.drawFresh(d.Space.Dims, d.Chunk))
		s, of := roomySelection(s), roomy(d.Type)
		d, _ = impl.OpenDataset(p, at)
		d = roomySet(d)
		object, described := at, d
		if m.IntN(3) == 0 {
			object, described.Index = root, 0
		}
		key := int64(0)
		if m.IntN(3) == 0 {
			data = m.drawData(d.Type, volume(d.Chunk))
		}
		before := shown(widePager(p), wideSet(described), wideSelection(s), widened(of), wideList(dims))
		results := datasetResults(p, object, key, "new", data, described, d, s, of, dims)
		checkNew(t, "results", []any{p, described, d, s, of, dims}, results...)
		first := shown(results...)
		second := shown(datasetResults(p, object, key, "new", data, described, d, s, of, dims)...)
		checkShown(t, "the arguments after the calls", shown(widePager(p), wideSet(described), wideSelection(s), widened(of), wideList(dims)), before)
		checkShown(t, "second call", second, first)
	}
}
