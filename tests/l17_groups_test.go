package tests

import (
	"fmt"
	"maps"
	"math"
	"slices"
	"strings"
	"testing"

	"loop.example/g00904/impl"
)

func TestP18Constants(t *testing.T) {
	check(t, "limits of groups", []int{impl.MaxLinks, impl.MaxDepth, impl.MaxFollow, impl.MaxObjects}, []int{12, 6, 8, 24})
}

// checkPath checks the functions of a string, which need not be a path.
func checkPath(t *testing.T, s string) bool {
	t.Helper()
	isPath := pathForm.MatchString(s)
	var want []string
	if isPath && s != "/" {
		want = strings.Split(s, "/")[1:]
	}
	names, ok := impl.SplitPath(s)
	checkValues(t, fmt.Sprintf("SplitPath of %q", s), []any{names, len(names), ok, impl.ValidPath(s)}, []any{want, len(want), isPath, isPath})
	return impl.ValidPath(s)
}

func TestP18Paths(t *testing.T) {
	for _, s := range []string{"/", "/a", "/a/b1", "/a/b/c/d/e/f", "/abcdefghijkl", "/A23456789012/z__________Z", "/a/a/a/a/a/a", strings.Repeat("/abcdefghijkl", 6), "/Z", "/z_"} {
		check(t, shown("is a path", s), checkPath(t, s), true)
	}
	for _, s := range []string{
		"", "a", "a/", "//", "///", "/a/", "/a//", "//a", "/a//b", "/a/b/c/d/e/f/", "a/b", "a/b/c", "/a/b/c/d/e/f/g", "//a/b/c/d/e/f", "/a/b/c//d/e/f", "/a/b/c/d/e/f/g/h", "/a/b/c/d/e//", "/abcdefghijklm", "/a/abcdefghijklm", strings.Repeat("/abcdefghijkl", 7),
		"/1", "/_", "/a/1", "/1/a", "/a-", "/a b", " /a", "/a ", "/ ", "/.", "/..", "/a/../b", "\\a", "/é", "/a\x00", "\x00", "/\x00", "/a\n", "\n/a", strings.Repeat("/", 100000), strings.Repeat("/a", 50000), "/" + strings.Repeat("a", 100000),
	} {
		check(t, shown("is a path", s[:min(len(s), 20)]), checkPath(t, s), false)
	}
	for _, letters := range []string{"/a1-", "/aB"} {
		for length := range 9 {
			everyString(length, letters, func(s string) { checkPath(t, s) })
		}
	}
	for length := 2; length <= 78; length++ {
		path := pathOfLength(length)
		check(t, shown("path", path), []any{checkPath(t, path), len(path)}, []any{true, length})
	}
}

// manyLinks returns so many links, the names of which are a, b, c and so on.
func manyLinks(count int) []impl.Link {
	var list []impl.Link
	for i := range count {
		list = append(list, hard(string(rune('a'+i)), int64(i+1)))
	}
	return list
}

func goodLinks() [][]impl.Link {
	list := [][]impl.Link{
		nil, {hard("a", 1)}, {hard("a", 255)}, {hard("a", 254), hard("b", 2)}, {soft("a", "/")}, {soft("a", "/a")}, {soft("a", "/b/c/d/e/f/g"), hard("b", 77)}, {hard("A", 7), hard("a", 7)}, {hard("a", 7), hard("a0", 7), hard("aA", 7), hard("a_", 7), hard("aa", 7), hard("b", 7)},
		{hard("abcdefghijkl", 200), soft("z", strings.Repeat("/abcdefghijkl", 6))}, {soft("Z", "/"), soft("a", "/"), hard("z", 9)},
	}
	for _, count := range []int{1, 2, 3, 11, 12} {
		list = append(list, manyLinks(count))
	}
	return list
}

func badLinks() [][]impl.Link {
	list := [][]impl.Link{
		{{}}, manyLinks(13), manyLinks(14), manyLinks(26), slices.Repeat(manyLinks(1), 2), {hard("a", 1), hard("a", 2)}, {hard("b", 1), hard("a", 2)}, {hard("a", 1), soft("a", "/")}, {hard("a", 1), hard("c", 1), hard("b", 1)}, {hard("a", 1), hard("A", 1)}, {hard("b", 1), hard("a", 1), hard("c", 1)}, {hard("a", 1), hard("b", 1), hard("b", 1)}, {hard("aa", 1), hard("a", 1)},
		{hard("a", 1), {}}, {{Name: "a"}}, {{Name: "a", Target: 7, Path: "/"}}, {{Name: "a", Target: -1, Path: "/a"}}, {{Name: "a", Target: 1, Path: "/a"}}, {{Name: "a", Target: 256, Path: "/a"}}, {{Name: "a", Target: 7, Path: "b"}},
	}
	for _, target := range []int64{0, -1, 256, 257, 511, 65535, 65536, 65537, math.MinInt64, math.MaxInt64} {
		list = append(list, []impl.Link{hard("a", target)}, []impl.Link{hard("a", 7), hard("b", target)}, []impl.Link{hard("a", target), hard("b", 7)})
	}
	for _, path := range []string{"a", "//", "/a/", "a/b", "/-", "/a/b/c/d/e/f/g", "/abcdefghijklm", " ", "\x00", strings.Repeat("/a", 300), strings.Repeat("/a", 128)} {
		list = append(list, []impl.Link{soft("a", path)}, []impl.Link{hard("a", 7), soft("b", path)}, []impl.Link{soft("a", path), hard("b", 7)})
	}
	for _, name := range []string{"", "-", "1", "_", "a-", "a b", "abcdefghijklm", "é", "\x00", "\xff", "/", "/a"} {
		list = append(list, []impl.Link{hard(name, 7)}, []impl.Link{soft(name, "/")}, []impl.Link{hard("A", 7), hard(name, 7)}, []impl.Link{hard(name, 7), hard("z", 7)})
	}
	return list
}

// checkLinks checks the form of links, which need not be valid, with a heap.
func checkLinks(t *testing.T, list []impl.Link, h impl.NameHeap) bool {
	t.Helper()
	what := fmt.Sprintf("%+v with %q", list, h.Names)
	want, wantOk := formOfLinks(list, h)
	form, ok := impl.EncodeLinks(list, h)
	check(t, "EncodeLinks of "+what, []any{form, ok}, []any{want, wantOk})
	if ok {
		back, isForm := impl.DecodeLinks(form, h)
		checkValues(t, "DecodeLinks of "+what, []any{back, isForm}, []any{list, true})
		checkNew(t, "DecodeLinks", []any{list, h}, back)
	}
	return ok
}

func TestP18ListsOfLinks(t *testing.T) {
	for _, list := range goodLinks() {
		check(t, shown("ValidLinks", list), []bool{impl.ValidLinks(list), isLinkList(list)}, []bool{true, true})
		h := heapOfLinks(list)
		check(t, shown("EncodeLinks", list), checkLinks(t, list, h), true)
		slices.Reverse(h.Names)
		check(t, shown("EncodeLinks", list), checkLinks(t, list, h), true)
		if len(list) > 0 {
			check(t, "a slot that is free", checkLinks(t, list, heapOf(append([]string{""}, h.Names...)...)), true)
			check(t, "many slots", checkLinks(t, list, heapOf(append(make([]string, 30-len(list)), h.Names...)...)), true)
			check(t, "a slot too many", checkLinks(t, list, heapOf(append(make([]string, 31-len(list)), h.Names...)...)), false)
			check(t, "a name too few", checkLinks(t, list, heapOf(h.Names[1:]...)), false)
			check(t, "a name that is another", checkLinks(t, list, heapOf(withName(h.Names, 0, "other")...)), false)
			check(t, "no name", checkLinks(t, list, impl.NameHeap{}), false)
			check(t, "a name twice", checkLinks(t, list, heapOf(append(slices.Clone(h.Names), h.Names[0])...)), false)
		}
		check(t, "a name too many", checkLinks(t, list, heapOf(append(slices.Clone(h.Names), "other")...)), false)
		check(t, "a free slot at the end", checkLinks(t, list, heapOf(append(slices.Clone(h.Names), "")...)), false)
	}
	for _, list := range badLinks() {
		check(t, shown("ValidLinks", list), []bool{impl.ValidLinks(list), isLinkList(list)}, []bool{false, false})
		check(t, shown("EncodeLinks", list), checkLinks(t, list, heapOfLinks(list)), false)
	}
	for _, h := range badHeaps() {
		check(t, shown("EncodeLinks", h), []bool{checkLinks(t, nil, h), checkLinks(t, []impl.Link{hard("a", 7)}, h), checkDecodeLinks(t, "", h)}, []bool{false, false, false})
	}
}

func TestP18WrittenFormsOfLinks(t *testing.T) {
	for _, c := range []struct {
		form string
		h    impl.NameHeap
		list []impl.Link
	}{
		{"", impl.NameHeap{}, nil},
		{"\x00\x00\x07\x00", heapIn("a"), []impl.Link{hard("a", 7)}},
		{"\x01\x00\xff\x00\x00\x02/b", heapIn("da"), []impl.Link{hard("a", 255), soft("d", "/b")}},
		{"\x03\x01/\x01\x00\x01\x00\x00\x04/a/b", heapIn("cb.a"), []impl.Link{soft("a", "/"), hard("b", 1), soft("c", "/a/b")}},
		{"\x1d\x00\x80\x00", heapOf(withName(make([]string, 30), 29, "zz")...), []impl.Link{hard("zz", 128)}},
	} {
		form, ok := impl.EncodeLinks(c.list, c.h)
		check(t, shown("EncodeLinks", c.list), []any{form, ok}, []any{c.form, true})
		list, ok := impl.DecodeLinks(c.form, c.h)
		checkValues(t, shown("DecodeLinks", c.list), []any{list, ok}, []any{c.list, true})
	}
}

func checkDecodeLinks(t *testing.T, form string, h impl.NameHeap) bool {
	t.Helper()
	want, wantOk := linksFrom(form, h)
	list, ok := impl.DecodeLinks(form, h)
	if ok != wantOk || !slices.Equal(list, want) {
		t.Errorf("DecodeLinks of %q with %q: got %+v and %v, want %+v and %v", form, h.Names, list, ok, want, wantOk)
	}
	return ok
}

func TestP18FormsOfLinksThatAreNotValid(t *testing.T) {
	hardA, hardB, softB := "\x00\x00\x07\x00", "\x01\x00\x08\x00", "\x01\x02/b"
	both := heapIn("ab")
	check(t, "links", []bool{checkDecodeLinks(t, hardA+hardB, both), checkDecodeLinks(t, hardA+softB, both)}, []bool{true, true})
	for what, c := range map[string]struct {
		form string
		h    impl.NameHeap
	}{
		"a slot that is free": {"\x01\x00\x07\x00", heapIn("a.b")}, "a slot that is free beside all others": {hardA + "\x01\x00\x07\x00" + "\x02\x00\x08\x00", heapIn("a.b")}, "a slot that does not exist": {hardA + "\x02\x00\x07\x00", both}, "slot 255": {hardA + "\xff\x00\x07\x00", both}, "a slot of no heap": {hardA, impl.NameHeap{}}, "slot 30": {"\x1e\x00\x07\x00", heapOf(manyNames(30)...)},
		"a slot that is used twice": {hardA + hardA, heapIn("a")}, "a slot that is used twice and one that is not": {hardA + hardA, both}, "a slot that is used again": {hardA + hardB + hardB, both}, "a slot that is not used": {hardA, both}, "another slot that is not used": {hardB, both}, "slots that are not used": {"", both}, "one slot that is not used": {"", heapIn("a")}, "a slot behind free ones that is not used": {hardA, heapIn("a..b")},
		"a name that occurs twice": {hardA, heapIn("aa")}, "a name that occurs twice and is used twice": {hardA + hardB, heapIn("aa")}, "a name that occurs twice behind another": {hardA + hardB, heapIn("abb")}, "the second slot of a name": {hardB, heapIn("aa")}, "names out of order": {hardB + hardA, both}, "names out of order in the slots": {hardA + hardB, heapIn("ba")}, "names of both cases": {hardA + hardB, heapIn("aB")},
		"one byte": {"\x00", heapIn("a")}, "two bytes": {"\x00\x00", heapIn("a")}, "three bytes": {"\x00\x00\x07", heapIn("a")}, "five bytes": {hardA + "\x00", heapIn("a")}, "six bytes": {hardA + "\x01\x00", both}, "seven bytes": {hardA + "\x01\x00\x08", both}, "a path that is cut short": {"\x00\x02/", heapIn("a")}, "no path": {"\x00\x02", heapIn("a")}, "a byte behind a path": {"\x00\x02/b/", heapIn("a")}, "a zero behind it": {hardA + "\x00", heapIn("a")}, "a byte behind both": {hardA + hardB + "\x02", both}, "a byte in front": {"\x00" + hardA, heapIn("a")},
		"a target of 0": {"\x00\x00\x00\x00", heapIn("a")}, "a target of 256": {"\x00\x00\x00\x01", heapIn("a")}, "a target of 257": {"\x00\x00\x01\x01", heapIn("a")}, "a target of 65535": {"\x00\x00\xff\xff", heapIn("a")}, "no slash": {"\x00\x02bb", heapIn("a")}, "a slash at the end": {"\x00\x03/b/", heapIn("a")}, "an empty name": {"\x00\x02//", heapIn("a")}, "seven names": {"\x00\x0e/a/b/c/d/e/f/g", heapIn("a")}, "a path of a zero": {"\x00\x01\x00", heapIn("a")},
		"thirteen links": {strings.Join(hardForms(13), ""), heapOfLinks(manyLinks(13))}, "thirty links": {strings.Join(hardForms(30), ""), heapOf(slices.Sorted(slices.Values(manyNames(30)))...)}, "zero bytes": {strings.Repeat("\x00", 100000), heapIn("a")}, "ones": {strings.Repeat("\x01", 100000), both}, "all bits": {strings.Repeat("\xff", 100000), both},
	} {
		check(t, what, checkDecodeLinks(t, c.form, c.h), false)
	}
	check(t, "twelve links", checkDecodeLinks(t, strings.Join(hardForms(12), ""), heapOfLinks(manyLinks(12))), true)
}

// hardForms returns the forms of so many hard links, each in the next slot.
func hardForms(count int) []string {
	var list []string
	for i := range count {
		list = append(list, string([]byte{byte(i), 0, 7, 0}))
	}
	return list
}

// All short lists with all small heaps.
func TestP18SmallHeapsAndLinks(t *testing.T) {
	counts := map[bool]int{}
	for count := range 5 {
		everyHeap(count, func(h impl.NameHeap) {
			for _, names := range []string{"", "a", "b", "c", "ab", "ac", "ba", "aa", "abc"} {
				for bits := range 1 << len(names) {
					var list []impl.Link
					for i, name := range names {
						if bits>>i&1 == 0 {
							list = append(list, hard(string(name), 40))
						} else {
							list = append(list, soft(string(name), "/c"))
						}
					}
					counts[checkLinks(t, list, h)]++
				}
			}
		})
	}
	if counts[true] < 40 || counts[false] < 1000 {
		t.Errorf("too few: %v", counts)
	}
}

// Every byte of a form with another value, every part, and a byte more.
func TestP18DamagedFormsOfLinks(t *testing.T) {
	counts := map[bool]int{}
	m := newTypeMaker(131)
	for i := range 25 {
		list := append(goodLinks()[:11], m.drawLinks(4))[i%12]
		h := m.drawHeapOf(list)
		form, _ := formOfLinks(list, h)
		for i := range len(form) {
			counts[checkDecodeLinks(t, form[:i], h)]++
			counts[checkDecodeLinks(t, form[i+1:], h)]++
			for c := range 256 {
				counts[checkDecodeLinks(t, form[:i]+string([]byte{byte(c)})+form[i+1:], h)]++
			}
		}
		for c := range 256 {
			counts[checkDecodeLinks(t, form+string([]byte{byte(c)}), h)]++
		}
		checkLinks(t, list, h)
	}
	if counts[true] < 1000 || counts[false] < 1000 {
		t.Errorf("too few: %v", counts)
	}
	for range 1000 {
		list := m.drawLinks(12)
		check(t, shown("drawn", list), checkLinks(t, list, m.drawHeapOf(list)), true)
	}
}

// checkOnlyLinks checks that a group has these links, and that they are found.
func checkOnlyLinks(t *testing.T, what string, p impl.Pager, group int64, want ...impl.Link) {
	t.Helper()
	links, code := checkLinksOf(t, what, p, group)
	checkValues(t, shown(what, "links", group), []any{links, code}, []any{want, impl.OK})
}

func TestP18GroupsThatAreRead(t *testing.T) {
	links := []impl.Link{hard("a", 70), soft("bb", "/a/bb"), hard("c3", 255)}
	names, form := message(impl.MsNames, 0, "\x05\x02c3\x00\x00\x01a\x02bb"), message(impl.MsLinks, 0, "\x03\x00\x46\x00\x04\x05/a/bb\x00\x00\xff\x00")
	other, long := message(impl.MsAttribute, 3, "attribute"), message(impl.MsFill, 255, strings.Repeat("fill", 50))
	for i, messages := range [][]impl.Message{{names, form}, {form, names}, {other, names, other, form, other}, {long, form, long, names}, append(manyMessages(6, 9), form, names)} {
		for _, refs := range []int64{0, 1, 1000} {
			p := storeWith(t, 0, thing{50, headerOf(impl.ObGroup, refs, messages...)})
			checkOnlyLinks(t, shown("read", i), p, 50, links...)
		}
	}
	pages := chainOf(formOf(headerOf(impl.ObGroup, 1, message(impl.MsFill, 7, strings.Repeat("fill", 25)), form, names)), []int64{20, 17, 38})
	for places := range 27 {
		checkOnlyLinks(t, shown("places", places), scattered(t, 40, 12, pages, places), 20, links...)
	}
	p := storeWith(t, 0, thing{50, folderHeader(1)}, thing{60, folderHeader(1, manyLinks(12)...)}, thing{70, headerOf(impl.ObGroup, 1, message(impl.MsLinks, 0, ""), message(impl.MsNames, 0, "\x00"))})
	checkOnlyLinks(t, "without links", p, 50)
	checkOnlyLinks(t, "twelve links", p, 60, manyLinks(12)...)
	checkOnlyLinks(t, "without links", p, 70)
}

// badFolders are headers of objects that are no groups, and the code of LinksOf.
func badFolders() map[string]impl.Header {
	names, form := message(impl.MsNames, 0, "\x01\x01a"), message(impl.MsLinks, 0, "\x00\x00\x46\x00")
	empty, none := message(impl.MsNames, 0, "\x00"), message(impl.MsLinks, 0, "")
	flagged := func(m impl.Message, flags int64) impl.Message { return message(m.Kind, flags, m.Data) }
	other := message(impl.MsAttribute, 0, "attribute")
	list := map[string]impl.Header{}
	for what, messages := range map[string][]impl.Message{
		"no messages": nil, "other messages": {other}, "none of MsNames": {form}, "none of MsLinks": {names}, "none of MsNames without links": {none}, "none of MsLinks without names": {empty}, "two of MsNames": {names, names, form}, "two of MsLinks": {names, form, form}, "two of both": {names, form, names, form}, "two of MsNames apart": {names, form, other, names}, "two of MsLinks apart": {form, other, names, form},
		"two empty ones of MsNames": {empty, empty, none}, "two empty ones of MsLinks": {empty, none, none}, "another heap behind it": {names, form, empty}, "other links behind it": {names, form, none}, "another heap before it": {empty, names, form}, "other links before it": {none, names, form},
		"Flags of MsNames": {flagged(names, 1), form}, "Flags of MsLinks": {names, flagged(form, 1)}, "Flags of 255": {flagged(names, 255), flagged(form, 255)}, "MsNames with Flags behind it": {names, form, flagged(names, 1)}, "MsLinks with Flags behind it": {names, form, flagged(form, 1)}, "MsNames with Flags before it": {flagged(names, 1), names, form}, "MsLinks with Flags before it": {flagged(form, 128), names, form},
		"no heap": {message(impl.MsNames, 0, ""), none}, "a heap with a free slot at its end": {message(impl.MsNames, 0, "\x02\x01a\x00"), form}, "a heap that is cut short": {message(impl.MsNames, 0, "\x01\x02a"), form}, "a byte behind the heap": {message(impl.MsNames, 0, "\x01\x01a\x00"), form}, "a name twice": {message(impl.MsNames, 0, "\x02\x01a\x01a"), form}, "a name that is not used": {message(impl.MsNames, 0, "\x02\x01a\x01b"), form}, "names without links": {names, none}, "links without names": {empty, form}, "no name": {message(impl.MsNames, 0, "\x01\x011"), form},
		"links that are cut short": {names, message(impl.MsLinks, 0, "\x00\x00\x46")}, "a byte behind the links": {names, message(impl.MsLinks, 0, "\x00\x00\x46\x00\x00")}, "a target of 0": {names, message(impl.MsLinks, 0, "\x00\x00\x00\x00")}, "a target of 256": {names, message(impl.MsLinks, 0, "\x00\x00\x00\x01")}, "a slot that does not exist": {names, message(impl.MsLinks, 0, "\x01\x00\x46\x00")}, "no path": {names, message(impl.MsLinks, 0, "\x00\x01a")}, "messages of other kinds": {message(impl.MsType, 0, names.Data), message(impl.MsSpace, 0, form.Data)}, "both exchanged": {message(impl.MsLinks, 0, names.Data), message(impl.MsNames, 0, form.Data)},
	} {
		list[what] = headerOf(impl.ObGroup, 1, messages...)
	}
	list["a dataset"], list["a virtual dataset"], list["an empty dataset"] = headerOf(impl.ObDataset, 1, names, form), headerOf(impl.ObVirtual, 1, names, form), headerOf(impl.ObDataset, 1, empty, none)
	return list
}

// groupCodes returns the codes of all functions that need a group.
func groupCodes(t *testing.T, what string, p impl.Pager, group int64) []int64 {
	t.Helper()
	_, code := checkLinksOf(t, what, p, group)
	codes := []int64{code}
	_, _, code = checkCreateGroup(t, what, p, group, "new")
	codes = append(codes, code)
	_, code = checkAddLink(t, what, p, group, "new", 90)
	codes = append(codes, code)
	_, code = checkAddSoftLink(t, what, p, group, "new", "/a")
	codes = append(codes, code)
	_, code = checkRemoveLink(t, what, p, group, "a")
	return append(codes, code)
}

func TestP18GroupsThatAreNone(t *testing.T) {
	for what, h := range badFolders() {
		p := storeWith(t, 40, thing{40, folderHeader(1, hard("x", 50))}, thing{50, h}, thing{70, headerOf(impl.ObVirtual, 1)}, thing{90, headerOf(impl.ObVirtual, 0)})
		want := int64(impl.ErrCorrupt)
		if h.Kind != impl.ObGroup {
			want = impl.ErrType
		}
		check(t, what, groupCodes(t, what, p, 50), slices.Repeat([]int64{want}, 5))
		at, code := checkFindPath(t, what, p, "/x")
		check(t, what, []int64{at, code}, []int64{50, impl.OK})
		_, code = checkFindPath(t, what, p, "/x/a")
		check(t, what, code, want)
	}
	p := storeWith(t, 40, thing{40, folderHeader(1, hard("a", 70))}, thing{70, headerOf(impl.ObVirtual, 1)}, thing{90, headerOf(impl.ObVirtual, 0)})
	check(t, "a group", groupCodes(t, "a group", p, 40), []int64{0, 0, 0, 0, 0})
	for _, at := range append([]int64{39, 41, 99, 100, 32, 33, 2, 256, 40 + 256, 40 + 65536, -40}, oddNumbers()...) {
		want := int64(impl.ErrCorrupt)
		switch at {
		case 40:
			want = impl.OK
		case 70, 90:
			want = impl.ErrType
		}
		check(t, shown("number", at), groupCodes(t, "number", p, at), slices.Repeat([]int64{want}, 5))
	}
}

// The root group of a store, written out.
func TestP18FormatGroups(t *testing.T) {
	p, code := checkFormat(t, "empty", emptyStore(t, 100, 30))
	root, rootCode := impl.RootOf(p)
	check(t, "FormatGroups", []any{code, root, rootCode, dirtyBlocks(p), storeText(p)}, []any{int64(impl.OK), int64(33), int64(impl.OK), []int64{32, 33}, "33 group 1"})
	page, _ := impl.GetPage(p, 33)
	check(t, "the root group", page, "\x00\x00\x0b\x00\x01\x01\x00\x02\x09\x00\x01\x00\x07\x00\x00"+blockOf("\x00")[15:])
	checkClean(t, "empty", p)
	_, code = checkFormat(t, "again", p)
	check(t, "FormatGroups again", code, int64(impl.ErrState))
	// A root that is none is one, too.
	for _, at := range []int64{1, 32, 34, 99, 255, 256, 65535} {
		_, code = checkFormat(t, "another root", withRoot(p, at))
		check(t, "FormatGroups with another root", code, int64(impl.ErrState))
	}
	without := withRoot(p, 0)
	p, code = checkFormat(t, "without a root", without)
	check(t, "FormatGroups without a root", []any{code, storeText(p)}, []any{int64(impl.OK), "34 group 1"})
	// Stores without room.
	for _, c := range []struct {
		store string
		dirty int
		want  int64
	}{{"x.xx.", 0, impl.OK}, {"xxxx.", 0, impl.OK}, {"xxxxx", 0, impl.ErrFull}, {"xxxxx.......", 4, impl.OK}, {"xxxxx.......", 5, impl.ErrFull}, {"xxxxx.......", 6, impl.ErrFull}} {
		p := spacedStore(t, c.store)
		p = withPages(t, p, pagesAt("dirty", numbersFrom(p.Super.Blocks-int64(c.dirty), p.Super.Blocks-1)...)...)
		_, code = checkFormat(t, c.store, p)
		check(t, shown("FormatGroups", c), code, c.want)
		_, code = checkFormat(t, c.store, withRoot(p, 3))
		check(t, shown("FormatGroups with a root", c), code, int64(impl.ErrState))
	}
}

const softLinks = "40 group 1 a=41 d>/a/b/c l1>/l2 l2>/l1 n>/none r>/ s>/a v=44 x>/v/y; 41 group 1 b=42 r>/ up>/a/b v=44; 42 group 1 c=43 me>/a/b/me u>/a; 43 group 1 s>/a/b; 44 virtual 2"

// Paths in one store, written out.
func TestP18PathsThatAreFollowed(t *testing.T) {
	p := storeIn(t, softLinks)
	check(t, "store", storeText(p), softLinks)
	for path, want := range map[string]int64{
		"/": 40, "/a": 41, "/a/b": 42, "/a/b/c": 43, "/v": 44, "/a/v": 44, "/r": 40, "/s": 41, "/r/a": 41, "/r/r/r/r/r/a": 41, "/s/b": 42, "/s/v": 44, "/a/r": 40, "/a/r/a/r/a/r": 40, "/a/up": 42, "/a/up/c": 43, "/s/up/c": 43, "/d": 43, "/d/s": 42, "/d/s/c/s/c/s": 42, "/a/b/u/b/u/up": 42, "/r/s/up/c/s/u": 41, "/r/d/s/u/r/v": 44,
	} {
		at, code := checkFindPath(t, "found", p, path)
		check(t, shown("FindPath", path), []int64{at, code}, []int64{want, impl.OK})
	}
	for path, want := range map[string]int64{
		"/l1": impl.ErrLoop, "/l2": impl.ErrLoop, "/l1/a": impl.ErrLoop, "/a/b/me": impl.ErrLoop, "/a/b/me/me": impl.ErrLoop, "/n": impl.ErrNotFound, "/none": impl.ErrNotFound, "/n/a": impl.ErrNotFound, "/b": impl.ErrNotFound, "/a/c": impl.ErrNotFound, "/A": impl.ErrNotFound, "/aa": impl.ErrNotFound, "/a/b/c/d": impl.ErrNotFound, "/r/none": impl.ErrNotFound,
		"/v/a": impl.ErrType, "/a/v/b": impl.ErrType, "/x": impl.ErrType, "/x/a": impl.ErrType, "/v/v/v/v/v/v": impl.ErrType, "": impl.ErrInvalid, "a": impl.ErrInvalid, "/a/": impl.ErrInvalid, "//": impl.ErrInvalid, "/-": impl.ErrInvalid, "/a/b/c/d/e/f/g": impl.ErrInvalid,
	} {
		_, code := checkFindPath(t, "not found", p, path)
		check(t, shown("FindPath", path), code, want)
	}
	m := newTypeMaker(132)
	counts := map[int64]int{}
	for range 4000 {
		_, code := checkFindPath(t, "drawn", p, m.drawPath([]string{"a", "b", "c", "d", "l1", "n", "r", "s", "u", "up", "v", "x", "me", "zz"}))
		counts[code]++
	}
	if counts[impl.OK] < 200 || counts[impl.ErrLoop] < 50 || counts[impl.ErrNotFound] < 200 || counts[impl.ErrType] < 50 {
		t.Errorf("too few of a code: %v", counts)
	}
}

// Soft links one behind the other.
func TestP18FollowedLinks(t *testing.T) {
	p := storeIn(t, "40 group 1 a=41 s1>/a s2>/s1 s3>/s2 s4>/s3 s5>/s4 s6>/s5 s7>/s6 s8>/s7 s9>/s8 t=44; 41 group 1 b=43 s>/s7; 43 virtual 1; 44 group 1")
	for path, want := range map[string]int64{"/s1": 41, "/s7": 41, "/s8": 41, "/s8/b": 43, "/s1/b": 43, "/s1/s": 0, "/s6/s": 0, "/s9": 0, "/s9/b": 0, "/a/s": 41, "/a/s/b": 43, "/a/s/s": 0, "/t": 44} {
		at, code := checkFindPath(t, "followed", p, path)
		wantCode := int64(impl.OK)
		if want == 0 {
			wantCode = impl.ErrLoop
		}
		check(t, shown("FindPath", path), []int64{at, code}, []int64{want, wantCode})
	}
	// Behind eight soft links: the errors in their order.
	p = storeIn(t, "40 group 1 a=41 l>/ m>/l/l/l/l/l/a v=42; 41 group 1 b=42 s>/v; 42 virtual 2")
	for path, want := range map[string]int64{
		"/m": impl.OK, "/l/m/b": impl.OK, "/l/l/m/b": impl.OK, "/l/l/m/s": impl.ErrLoop, "/l/l/l/m": impl.ErrLoop, "/l/l/m/c": impl.ErrNotFound, "/l/l/m/b/c": impl.ErrType, "/l/l/m/b/s": impl.ErrType, "/l/m/s": impl.OK, "/l/m/s/c": impl.ErrType, "/l/l/m/s/c": impl.ErrLoop, "/l/m/s/l": impl.ErrType,
	} {
		_, code := checkFindPath(t, "eight", p, path)
		check(t, shown("FindPath", path), code, want)
	}
}

// Roots of all kinds.
func TestP18Roots(t *testing.T) {
	things := []thing{thingIn("50 group 1 a=60"), thingIn("60 virtual 1"), thingIn("70 dataset 1"), {80, badFolders()["two of MsLinks"]}}
	for root, want := range map[int64][]int64{
		0:  {0, impl.ErrState, impl.ErrState, impl.ErrState, impl.ErrState},
		50: {50, impl.OK, impl.OK, impl.OK, impl.OK}, 60: {60, impl.OK, impl.ErrType, impl.OK, impl.OK}, 70: {70, impl.OK, impl.ErrType, impl.OK, impl.OK},
		80: {80, impl.OK, impl.ErrCorrupt, impl.ErrCorrupt, impl.ErrCorrupt}, 51: {51, impl.OK, impl.ErrCorrupt, impl.ErrCorrupt, impl.ErrCorrupt}, 32: {32, impl.OK, impl.ErrCorrupt, impl.ErrCorrupt, impl.ErrCorrupt}, 100: {100, impl.OK, impl.ErrCorrupt, impl.ErrCorrupt, impl.ErrCorrupt}, 65535: {65535, impl.OK, impl.ErrCorrupt, impl.ErrCorrupt, impl.ErrCorrupt}, 50 + 256: {306, impl.OK, impl.ErrCorrupt, impl.ErrCorrupt, impl.ErrCorrupt},
	} {
		p := storeWith(t, root, things...)
		at, code := checkFindPath(t, "root", p, "/")
		got := []int64{at, code}
		_, code = checkFindPath(t, "root", p, "/a")
		got = append(got, code)
		_, code = checkObjectsOf(t, "root", p)
		got = append(got, code)
		_, _, code = checkCreateGroup(t, "root", p, 50, "b")
		check(t, shown("root", root), append(got, code), want)
		// All that does not need the root.
		links, code := checkLinksOf(t, "root", p, 50)
		check(t, "LinksOf", []any{links, code}, []any{[]impl.Link{hard("a", 60)}, int64(impl.OK)})
		_, code = checkAddLink(t, "root", p, 50, "b", 60)
		_, softCode := checkAddSoftLink(t, "root", p, 50, "b", "/")
		_, removeCode := checkRemoveLink(t, "root", p, 50, "a")
		check(t, "codes", []int64{code, softCode, removeCode}, []int64{impl.OK, impl.OK, impl.OK})
		for _, path := range []string{"", "a", "/a/"} {
			_, code = checkFindPath(t, "root", p, path)
			check(t, "FindPath without a path", code, int64(impl.ErrInvalid))
		}
	}
}

// Links that are added and removed one after the other, written out.
func TestP18WrittenStores(t *testing.T) {
	p, _ := checkFormat(t, "written", emptyStore(t, 100, 30))
	p, b, _ := checkCreateGroup(t, "written", p, 33, "b")
	p, a, _ := checkCreateGroup(t, "written", p, 33, "a")
	p, c, _ := checkCreateGroup(t, "written", p, a, "c")
	check(t, "CreateGroup", []any{b, a, c, storeText(p)}, []any{int64(34), int64(35), int64(36), "33 group 1 a=35 b=34; 35 group 1 c=36; 36 group 1; 34 group 1"})
	p, _ = checkAddSoftLink(t, "written", p, 33, "aa", "/a/c/none")
	p, at, _ := checkCreate(t, "written", p, headerOf(impl.ObVirtual, 0))
	p, _ = checkAddLink(t, "written", p, c, "v", at)
	p, _ = checkAddLink(t, "written", p, 33, "A", at)
	check(t, "links", storeText(p), "33 group 1 A=37 a=35 aa>/a/c/none b=34; 37 virtual 2; 35 group 1 c=36; 36 group 1 v=37; 34 group 1")
	h, _ := impl.ReadHeader(p, 33)
	checkValues(t, "the root group", []any{h}, []any{headerOf(impl.ObGroup, 1, message(impl.MsNames, 0, "\x04\x01b\x01a\x02aa\x01A"), message(impl.MsLinks, 0, "\x03\x00\x25\x00\x01\x00\x23\x00\x02\x09/a/c/none\x00\x00\x22\x00"))})
	checkClean(t, "written", p)
	p, _ = checkRemoveLink(t, "written", p, 33, "a")
	check(t, "without a", storeText(p), "33 group 1 A=37 aa>/a/c/none b=34; 37 virtual 1; 34 group 1")
	check(t, "what is deleted", thingsText(p, a, c, at, b), "35 corrupt; 36 corrupt; 37 virtual 1; 34 group 1")
	p, d, _ := checkCreateGroup(t, "written", p, 33, "d")
	h, _ = impl.ReadHeader(p, 33)
	check(t, "slots that are used again", []any{d, h.Messages[0].Data, storeText(p)}, []any{int64(35), "\x04\x01b\x01d\x02aa\x01A", "33 group 1 A=37 aa>/a/c/none b=34 d=35; 37 virtual 1; 34 group 1; 35 group 1"})
	for _, name := range []string{"A", "aa", "b", "d"} {
		p, _ = checkRemoveLink(t, "written", p, 33, name)
		checkClean(t, "written", p)
	}
	h, _ = impl.ReadHeader(p, 33)
	check(t, "an empty group", []any{storeText(p), h.Messages[0].Data, impl.FreeCount(p)}, []any{"33 group 1", "\x00", int64(66)})
}

// A link that is added to a group anywhere, or removed from it, beside links in
// any slots and other messages.
func TestP18OtherLinksAreUnchanged(t *testing.T) {
	m := newTypeMaker(133)
	for range 150 {
		list := m.drawLinks(11)
		for i := range list {
			if list[i].Path == "" {
				list[i].Target = 90
			}
		}
		heap := m.drawHeapOf(list)
		before, behind := m.drawHeader(30).Messages, m.drawHeader(30).Messages
		isFree := func(m impl.Message) bool { return m.Kind == impl.MsNames || m.Kind == impl.MsLinks }
		before, behind = slices.DeleteFunc(before, isFree), slices.DeleteFunc(behind, isFree)
		h := folderWith(m.between(0, 1000), heap, list)
		h.Messages = slices.Concat(before[:min(len(before), 4)], h.Messages, behind[:min(len(behind), 4)])
		if len(h.Messages[len(before[:min(len(before), 4)])+1].Data) > 100 {
			continue
		}
		p := storeWith(t, 40, thing{40, folderHeader(1, hard("x", 50))}, thing{50, h}, thing{90, headerOf(impl.ObVirtual, 20)})
		name := "Q" + m.drawNames(1)[0][:1]
		results := []impl.Pager{}
		after, at, code := checkCreateGroup(t, "others", p, 50, name)
		check(t, "CreateGroup", code, int64(impl.OK))
		results = append(results, after)
		added := []impl.Link{hard(name, at), hard(name, 90), soft(name, "/a/b")}
		after, code = checkAddLink(t, "others", p, 50, name, 90)
		check(t, "AddLink", code, int64(impl.OK))
		results = append(results, after)
		after, code = checkAddSoftLink(t, "others", p, 50, name, "/a/b")
		check(t, "AddSoftLink", code, int64(impl.OK))
		results = append(results, after)
		for i, after := range results {
			want := append(slices.Clone(list), added[i])
			slices.SortFunc(want, func(a, b impl.Link) int { return strings.Compare(a.Name, b.Name) })
			checkOnlyLinks(t, "others", after, 50, want...)
			checkOtherMessages(t, after, h)
			checkOtherMessages(t, tryRemove(t, after, name, list), h)
		}
		for i, x := range list {
			checkOtherMessages(t, tryRemove(t, p, x.Name, slices.Delete(slices.Clone(list), i, i+1)), h)
		}
	}
}

// tryRemove removes a link from the group 50, and checks that these remain.
func tryRemove(t *testing.T, p impl.Pager, name string, want []impl.Link) impl.Pager {
	t.Helper()
	after, code := checkRemoveLink(t, "others", p, 50, name)
	check(t, "RemoveLink", code, int64(impl.OK))
	checkOnlyLinks(t, "others", after, 50, want...)
	return after
}

// checkOtherMessages checks that all of the header of the group 50 except its
// names and links is that of another header.
func checkOtherMessages(t *testing.T, p impl.Pager, want impl.Header) {
	t.Helper()
	h, code := impl.ReadHeader(p, 50)
	check(t, "ReadHeader", []any{code, len(h.Messages)}, []any{int64(impl.OK), len(want.Messages)})
	want.Messages = slices.Clone(want.Messages)
	for i, m := range h.Messages {
		if m.Kind == impl.MsNames || m.Kind == impl.MsLinks {
			check(t, "kind of the message", []int64{m.Kind, m.Flags}, []int64{want.Messages[i].Kind, 0})
			want.Messages[i] = m
		}
	}
	check(t, "other messages", impl.SameHeader(h, want), true)
}

// Groups with as many links, and messages as long, as there may be.
func TestP18FullGroups(t *testing.T) {
	for count, want := range map[int]int64{10: impl.OK, 11: impl.OK, 12: impl.ErrFull} {
		list := manyLinks(count)
		for i := range list {
			list[i].Target = 90
		}
		p := storeWith(t, 40, thing{40, folderHeader(1, list...)}, thing{90, headerOf(impl.ObVirtual, int64(count))})
		check(t, shown("codes", count), groupCodes(t, "full", p, 40), []int64{impl.OK, want, want, want, impl.OK})
		_, _, code := checkCreateGroup(t, "full", p, 40, "a")
		check(t, "a name that is there", code, int64(impl.ErrExists))
	}
	// The longest message: 200 bytes of links.
	for length, want := range map[int]int64{2: impl.OK, 37: impl.OK, 38: impl.OK, 39: impl.ErrFull, 78: impl.ErrFull} {
		p := storeWith(t, 40, thing{40, folderHeader(1, soft("a", pathOfLength(78)), soft("b", pathOfLength(78)))})
		after, code := checkAddSoftLink(t, "long", p, 40, "c", pathOfLength(length))
		check(t, shown("AddSoftLink", length), code, want)
		if length == 38 {
			h, _ := impl.ReadHeader(after, 40)
			check(t, "200 bytes", len(h.Messages[1].Data), 200)
			_, code = checkRemoveLink(t, "long", after, 40, "b")
			check(t, "RemoveLink", code, int64(impl.OK))
		}
	}
	for length, want := range map[int]int64{33: impl.OK, 34: impl.OK, 35: impl.ErrFull, 36: impl.ErrFull} {
		p := storeWith(t, 40, thing{40, folderHeader(1, soft("a", pathOfLength(78)), soft("b", pathOfLength(78)), soft("c", pathOfLength(length)))}, thing{90, headerOf(impl.ObVirtual, 0)})
		check(t, shown("codes", length), groupCodes(t, "long", p, 40)[1:3], []int64{want, want})
	}
	// The longest names in the last slots of a heap, with free ones before them.
	var list []impl.Link
	for i := range 11 {
		list = append(list, hard("abcdefghijk"+string(rune('a'+i)), 90))
	}
	for free := range 20 {
		heap := heapOf(append(make([]string, free), heapOfLinks(list).Names...)...)
		p := storeWith(t, 40, thing{40, folderWith(1, heap, list)}, thing{90, headerOf(impl.ObVirtual, 11)})
		after, code := checkAddLink(t, shown("free", free), p, 40, "abcdefghijkz", 90)
		f, _ := folderIn(after, 40)
		check(t, shown("the slot of the name", free), []any{code, slotIn(f.heap, "abcdefghijkz")}, []any{int64(impl.OK), []int64{11, 0}[min(free, 1)]})
	}
}

// Names and paths that are none.
func TestP18NamesThatAreNone(t *testing.T) {
	p := storeIn(t, "40 group 1 a=90; 90 virtual 1")
	for _, name := range append(oddStrings(), "abcdefghijkl", "abcdefghijklm", "/", "/a", "new/") {
		isName := nameForm.MatchString(name)
		for group, want := range map[int64]int64{40: impl.OK, 90: impl.ErrType, 41: impl.ErrCorrupt} {
			switch {
			case !isName:
				want = impl.ErrInvalid
			case group == 40 && name == "a":
				want = impl.ErrExists
			}
			_, _, code := checkCreateGroup(t, "names", p, group, name)
			_, linkCode := checkAddLink(t, "names", p, group, name, 90)
			_, softCode := checkAddSoftLink(t, "names", p, group, name, "/a")
			check(t, shown("name", name, group), []int64{code, linkCode, softCode}, []int64{want, want, want})
		}
		want := int64(impl.ErrNotFound)
		if name == "a" {
			want = impl.OK
		}
		_, code := checkRemoveLink(t, "names", p, 40, name)
		check(t, shown("RemoveLink", name), code, want)
	}
	for _, path := range append(oddStrings(), "/", "/a", "/a/b/c/d/e/f", "/a/b/c/d/e/f/g", "//", "/a/", "a/b") {
		for group, want := range map[int64]int64{40: impl.OK, 90: impl.ErrType, 41: impl.ErrCorrupt} {
			if !pathForm.MatchString(path) {
				want = impl.ErrInvalid
			}
			_, code := checkAddSoftLink(t, "paths", p, group, "b", path)
			check(t, shown("AddSoftLink", group, path), code, want)
		}
	}
}

// Every combination of the causes of an error.
func TestP18OrderOfErrors(t *testing.T) {
	codes := map[string]int{}
	for bits := range 1 << 11 {
		root, links, target, to := int64(40), []impl.Link{hard("a", 60), soft("b", pathOfLength(78)), soft("c", pathOfLength(78))}, thingIn("60 virtual 1"), int64(60)
		parent, name, path, invalid, dirty := int64(50), "new", "/a", false, 0
		for i, cause := range []func(){
			func() { dirty = 27 }, func() { path = pathOfLength(37) }, func() { target.h.Refs = 1000 }, func() { target.h.Kind = impl.ObGroup }, func() { to = 62 }, func() { root = 61 },
			func() { links = manyLinks(12) }, func() { name = "a" }, func() { parent = 60 }, func() { name, path = "-", "-" }, func() { invalid = true },
		} {
			if bits>>i&1 == 1 {
				cause()
			}
		}
		p := storeWith(t, root, thing{40, folderHeader(1, hard("x", 50))}, thing{50, folderHeader(1, links...)}, target)
		p = withPages(t, p, pagesAt("dirty", numbersFrom(70, 69+int64(dirty))...)...)
		if invalid {
			p.At = 31
		}
		what := shown("errors", bits)
		_, _, code := checkCreateGroup(t, what, p, parent, name)
		codes[shown("group", code)]++
		_, code = checkAddLink(t, what, p, parent, name, to)
		codes[shown("link", code)]++
		_, code = checkAddSoftLink(t, what, p, parent, name, path)
		codes[shown("soft", code)]++
		_, code = checkRemoveLink(t, what, p, parent, "a")
		codes[shown("remove", code)]++
		_, code = checkRemoveLink(t, what, p, parent, "new")
		codes[shown("none", code)]++
		_, code = checkFindPath(t, what, p, path)
		codes[shown("path", code)]++
		_, code = checkLinksOf(t, what, p, parent)
		codes[shown("read", code)]++
		_, code = checkObjectsOf(t, what, p)
		codes[shown("objects", code)]++
	}
	for _, name := range []string{"group 0", "group 1", "group 4", "group 5", "group 7", "group 10", "link 0", "link 1", "link 4", "link 5", "link 7", "link 10", "soft 0", "soft 1", "soft 4", "soft 5", "soft 7", "soft 10", "remove 0", "remove 1", "remove 5", "remove 7", "remove 10", "none 1", "none 3", "none 7", "none 10", "path 1", "path 3", "path 10", "read 0", "read 1", "read 7", "read 10", "objects 0", "objects 1", "objects 10"} {
		if codes["["+name+"]"] == 0 {
			t.Errorf("none of %s: %v", name, codes)
		}
	}
}

func TestP18PagersThatAreNotValid(t *testing.T) {
	for i, p := range badPagers() {
		what := shown("bad", i)
		_, code := checkFormat(t, what, p)
		codes := []int64{code}
		_, code = checkObjectsOf(t, what, p)
		codes = append(codes, code)
		_, code = checkFindPath(t, what, p, "/a")
		codes = append(codes, code)
		_, code = checkFindPath(t, what, p, "/")
		codes = append(codes, code)
		for _, group := range []int64{0, 12, 20, 39, math.MaxInt64} {
			codes = append(codes, groupCodes(t, what, p, group)...)
		}
		check(t, what, codes, slices.Repeat([]int64{impl.ErrInvalid}, 29))
	}
}

// Links to objects that have others, and as many as there may be.
func TestP19LinksAreCounted(t *testing.T) {
	p := storeIn(t, "40 group 1 a=60 g=41; 41 group 1 b=60 c=60; 60 virtual 3")
	for i, name := range []string{"x", "y", "z"} {
		var code int64
		p, code = checkAddLink(t, "counted", p, []int64{40, 41, 41}[i], name, 60)
		h, _ := impl.ReadHeader(p, 60)
		check(t, shown("AddLink", name), []int64{code, h.Refs}, []int64{impl.OK, int64(4 + i)})
		checkClean(t, "counted", p)
	}
	check(t, "links", storeText(p), "40 group 1 a=60 g=41 x=60; 60 virtual 6; 41 group 1 b=60 c=60 y=60 z=60")
	for i, name := range []string{"y", "b", "x", "c", "a", "z"} {
		var code int64
		p, code = checkRemoveLink(t, "counted", p, []int64{41, 41, 40, 41, 40, 41}[i], name)
		h, readCode := impl.ReadHeader(p, 60)
		want := []int64{impl.OK, impl.OK, int64(5 - i)}
		if name == "z" {
			want[1] = impl.ErrCorrupt
		}
		check(t, shown("RemoveLink", name), []int64{code, readCode, h.Refs}, want)
		checkClean(t, "counted", p)
	}
	check(t, "the last link", storeText(p), "40 group 1 g=41; 41 group 1")
	for _, kind := range []int64{impl.ObDataset, impl.ObVirtual} {
		for refs, want := range map[int64]int64{0: impl.OK, 1: impl.OK, 255: impl.OK, 256: impl.OK, 998: impl.OK, 999: impl.OK, 1000: impl.ErrFull} {
			h := longHeader(150)
			h.Kind, h.Refs = kind, refs
			p := storeWith(t, 40, thing{40, folderHeader(1)}, thing{60, h})
			p, code := checkAddLink(t, "counted", p, 40, "a", 60)
			check(t, shown("AddLink", refs), code, want)
			if code == impl.OK {
				h.Refs++
				got, _ := impl.ReadHeader(p, 60)
				check(t, "the header", impl.SameHeader(got, h), true)
				checkOnlyLinks(t, "counted", p, 40, hard("a", 60))
			}
		}
	}
}

func TestP19TargetsThatAreNone(t *testing.T) {
	p := storeWith(t, 40, thing{40, folderHeader(1, hard("g", 50))}, thing{50, folderHeader(1)}, thing{60, longHeader(150)}, thing{80, badFolders()["no messages"]})
	for _, at := range append([]int64{40, 50, 60, 61, 80, 97, 98, 99, 100, 32, 60 + 256, 60 + 65536}, oddNumbers()...) {
		want := int64(impl.ErrCorrupt)
		switch at {
		case 40, 50, 80:
			want = impl.ErrType
		case 60:
			want = impl.OK
		}
		for _, group := range []int64{40, 50} {
			_, code := checkAddLink(t, "targets", p, group, "new", at)
			check(t, shown("AddLink", group, at), code, want)
		}
		_, code := checkAddLink(t, "targets", p, 40, "g", at)
		check(t, "a name that is there", code, int64(impl.ErrExists))
	}
}

// sharedStore returns a store in which the second block of the group 33 is an
// object as well: all of the header of the group behind its first 60 bytes is in
// the block 40. These are the 4 bytes of the text short. If the group has a link
// with the name abcd, its names and links are longer by 9 bytes, and there are 9
// bytes before them, the first ones of which are the text long.
func sharedStore(t *testing.T, long, short string, links ...impl.Link) impl.Pager {
	t.Helper()
	h := folderHeader(1)
	end := long + strings.Repeat("-", 9-len(long)) + short
	filling := 64 - len(formOf(h)) - 3 - len(end)
	h = folderWith(1, heapOfLinks(links), links, message(impl.MsFill, 0, strings.Repeat("-", filling)+end))
	return withRoot(onDisk(t, 100, 30, chainOf(formOf(h), []int64{33, 40})...), 33)
}

// Targets whose headers are changed by the link that is added to a group first.
func TestP19TargetsThatAreChangedByTheirLink(t *testing.T) {
	for what, c := range map[string]struct {
		long, short string
		code, refs  int64
	}{
		"one more":             {"\x03\x05\x00\x01\x06\x00\x06", "\x03\x01\x00\x00", impl.OK, 6},
		"almost MaxRefs now":   {"\x03\xe7\x03\x01\x06\x00\x06", "\x03\x01\x00\x00", impl.OK, 1000},
		"MaxRefs now":          {"\x03\xe8\x03\x01\x06\x00\x06", "\x03\x01\x00\x00", impl.ErrFull, 0},
		"a group now":          {"\x01\x00\x00\x01\x06\x00\x06", "\x03\x01\x00\x00", impl.OK, 1},
		"too many Refs now":    {"\x03\xe9\x03\x01\x06\x00\x06", "\x03\x01\x00\x00", impl.ErrCorrupt, 0},
		"no kind now":          {"\x00\x05\x00\x01\x06\x00\x06", "\x03\x01\x00\x00", impl.ErrCorrupt, 0},
		"no message now":       {"\x03\x05\x00\x01\x00\x00\x06", "\x03\x01\x00\x00", impl.ErrCorrupt, 0},
		"a byte too many now":  {"\x03\x05\x00\x01\x06\x00\x05", "\x03\x01\x00\x00", impl.ErrCorrupt, 0},
		"not MaxRefs any more": {"\x03\x05\x00\x01\x06\x00\x06", "\x03\xe8\x03\x00", impl.ErrFull, 0},
		"not a group any more": {"\x03\x05\x00\x01\x06\x00\x06", "\x01\x01\x00\x00", impl.ErrType, 0},
		"only now an object":   {"\x03\x05\x00\x01\x06\x00\x06", "\x04\x01\x00\x00", impl.ErrCorrupt, 0},
	} {
		after, code := checkAddLink(t, what, sharedStore(t, c.long, c.short), 33, "abcd", 40)
		h, _ := impl.ReadHeader(after, 40)
		check(t, what, []int64{code, h.Refs}, []int64{c.code, c.refs})
	}
	_, code := checkAddLink(t, "a shorter name", sharedStore(t, "\x03\x05\x00\x01\x06\x00\x06", "\x03\x01\x00\x00"), 33, "abc", 40)
	check(t, "a shorter name", code, int64(impl.ErrCorrupt))
}

// Targets whose headers are changed by the link that is removed first.
func TestP19TargetsThatAreChangedByLosingTheirLink(t *testing.T) {
	for what, c := range map[string]struct {
		long, short string
		code        int64
		want        string
	}{
		"the last one":         {"\x03\x05\x00\x01\x06\x00\x06", "\x03\x01\x00\x00", impl.OK, "33 corrupt; 40 corrupt"},
		"one less":             {"\x03\x05\x00\x01\x06\x00\x06", "\x03\x02\x01\x00", impl.OK, "33 group 1; 40 virtual 257"},
		"MaxRefs now":          {"\x03\x01\x00\x01\x06\x00\x06", "\x03\xe8\x03\x00", impl.OK, "33 group 1; 40 virtual 999"},
		"Refs 0 now":           {"\x03\x05\x00\x01\x06\x00\x06", "\x03\x00\x00\x00", impl.ErrCorrupt, ""},
		"no object now":        {"\x03\x05\x00\x01\x06\x00\x06", "\x03\xe9\x03\x00", impl.ErrCorrupt, ""},
		"not Refs 0 any more":  {"\x03\x00\x00\x01\x06\x00\x06", "\x03\x02\x00\x00", impl.OK, "33 group 1; 40 virtual 1"},
		"only now an object":   {"\x03\x01\x00\x01\x00\x00\x06", "\x03\x02\x00\x00", impl.OK, "33 group 1; 40 virtual 1"},
		"a group that is none": {"\x03\x01\x00\x01\x00\x00\x06", "\x01\x01\x00\x00", impl.ErrCorrupt, ""},
	} {
		after, code := checkRemoveLink(t, what, sharedStore(t, c.long, c.short, hard("abcd", 40)), 33, "abcd")
		check(t, what, code, c.code)
		if code == impl.OK {
			check(t, what, thingsText(after, 33, 40), c.want)
		}
	}
	// The group has one block less without the link.
	h := folderWith(1, heapOf("abcd"), []impl.Link{hard("abcd", 40)}, message(impl.MsFill, 0, strings.Repeat("-", 37)+"\x03\x01\x00\x00"))
	p := withRoot(onDisk(t, 100, 30, chainOf(formOf(h), []int64{33, 40})...), 33)
	check(t, "a block less", thingsText(p, 33, 40), "33 group 1 abcd=40; 40 virtual 1")
	_, code := checkRemoveLink(t, "a block less", p, 33, "abcd")
	check(t, "a block less", code, int64(impl.ErrCorrupt))
}

// Groups that are deleted with all that only they lead to.
func TestP19LastLinks(t *testing.T) {
	for what, c := range map[string]struct{ store, path, want string }{
		"a soft link":                         {"40 group 1 a>/b b=41; 41 group 1", "a", "40 group 1 b=41; 41 group 1"},
		"a soft link to an object":            {"40 group 1 a>/b b=60; 60 virtual 1", "a", "40 group 1 b=60; 60 virtual 1"},
		"what a soft link leads to":           {"40 group 1 a>/b b=60; 60 virtual 1", "b", "40 group 1 a>/b"},
		"an object":                           {"40 group 1 a=60 b=61; 60 virtual 1; 61 virtual 1", "a", "40 group 1 b=61; 61 virtual 1"},
		"one of two links":                    {"40 group 1 a=60 b=60; 60 virtual 2", "a", "40 group 1 b=60; 60 virtual 1"},
		"an empty group":                      {"40 group 1 a=41; 41 group 1", "a", "40 group 1"},
		"a group with soft links":             {"40 group 1 a=41 b=42; 41 group 1 u>/ v>/b w>/none; 42 group 1", "a", "40 group 1 b=42; 42 group 1"},
		"a group with objects":                {"40 group 1 a=41 b=42; 41 group 1 u=60 v=61 w=62; 60 virtual 1; 61 virtual 1; 62 virtual 1; 42 group 1", "a", "40 group 1 b=42; 42 group 1"},
		"groups in groups":                    {"40 group 1 a=41; 41 group 1 b=42 c=43; 42 group 1 d=44; 44 group 1 v=60; 60 virtual 1; 43 group 1 v=61; 61 virtual 1", "a", "40 group 1"},
		"an object that is linked elsewhere":  {"40 group 1 a=41 b=60; 41 group 1 v=60 w=61; 60 virtual 2; 61 virtual 1", "a", "40 group 1 b=60; 60 virtual 1"},
		"an object that is linked five times": {"40 group 1 a=41; 41 group 1 b=42 c=60 d=60; 42 group 1 x=60 y=60 z=60; 60 virtual 5", "a", "40 group 1"},
		"several times below, once above":     {"40 group 1 a=41 z=60; 41 group 1 b=42 c=60 d=60; 42 group 1 x=60 y=60; 60 virtual 5", "a", "40 group 1 z=60; 60 virtual 1"},
		"a group within":                      {"40 group 1 a=41; 41 group 1 b=42 c=43; 42 group 1 v=60; 60 virtual 2; 43 group 1 v=60", "a/b", "40 group 1 a=41; 41 group 1 c=43; 43 group 1 v=60; 60 virtual 1"},
		"the last object of a group within":   {"40 group 1 a=41; 41 group 1 b=42; 42 group 1 u=60 v=61; 60 virtual 1; 61 virtual 1", "a/b/u", "40 group 1 a=41; 41 group 1 b=42; 42 group 1 v=61; 61 virtual 1"},
		"a group with another link":           {"40 group 1 a=41 b=42; 41 group 1 c=42; 42 group 2 v=60; 60 virtual 1", "a", "40 group 1 b=42; 42 group 1 v=60; 60 virtual 1"},
		"two links to a group within":         {"40 group 1 a=41; 41 group 1 b=42 c=42; 42 group 2 v=60; 60 virtual 1", "a", "40 group 1"},
	} {
		p := storeIn(t, c.store)
		check(t, what, storeText(p), c.store)
		checkClean(t, what, p)
		parent, name := "/", c.path
		if i := strings.LastIndex(c.path, "/"); i > 0 {
			parent, name = "/"+c.path[:i], c.path[i+1:]
		}
		group, _ := impl.FindPath(p, parent)
		after, code := checkRemoveLink(t, what, p, group, name)
		check(t, what, []any{code, storeText(after)}, []any{int64(impl.OK), c.want})
		checkClean(t, what, after)
	}
}

// Stores with links in a circle, with wrong Refs, and with targets that are no
// objects. They are not clean; this is what the steps of the document make of them.
func TestP19LinksThatAreWrong(t *testing.T) {
	for what, c := range map[string]struct {
		store string
		code  int64
		want  string
	}{
		"a link to the group above":                     {"40 group 1 a=41; 41 group 2 b=42; 42 group 1 up=41", impl.OK, "40 group 1; 41 group 1 b=42; 42 group 1 up=41"},
		"a link to itself":                              {"40 group 1 a=41; 41 group 2 me=41", impl.OK, "40 group 1; 41 group 1 me=41"},
		"a link to itself that is not counted":          {"40 group 1 a=41; 41 group 1 me=41", impl.ErrCorrupt, ""},
		"a link to the group above that is not counted": {"40 group 1 a=41; 41 group 1 b=42; 42 group 1 up=41", impl.ErrCorrupt, ""},
		"a link to the root":                            {"40 group 2 a=41; 41 group 1 b=60 up=40; 60 virtual 1", impl.OK, "40 group 1; 41 corrupt; 60 corrupt"},
		"a link to the root that is not counted":        {"40 group 1 a=41 c=60; 41 group 1 up=40; 60 virtual 1", impl.OK, "40 corrupt; 41 corrupt; 60 corrupt"},
		"a link to the root with a link back":           {"40 group 1 a=41 c=41; 41 group 1 up=40", impl.ErrCorrupt, ""},
		"a link to the root with a link back twice":     {"40 group 1 a=41 c=41; 41 group 2 up=40", impl.OK, "40 group 1 c=41; 41 group 1 up=40"},
		"an object with Refs 0":                         {"40 group 1 a=60; 60 virtual 0", impl.ErrCorrupt, ""},
		"a group with Refs 0":                           {"40 group 1 a=41; 41 group 0 b=60; 60 virtual 1", impl.ErrCorrupt, ""},
		"a dataset with Refs 0":                         {"40 group 1 a=60; 60 dataset 0", impl.ErrCorrupt, ""},
		"an object with Refs 0 on the way":              {"40 group 1 a=41; 41 group 1 b=60 c=61; 60 virtual 1; 61 virtual 0", impl.ErrCorrupt, ""},
		"an object with too few Refs on the way":        {"40 group 1 a=41; 41 group 1 b=60 c=60; 60 virtual 1", impl.ErrCorrupt, ""},
		"an object with too many Refs on the way":       {"40 group 1 a=41; 41 group 1 b=60 c=60; 60 virtual 3", impl.OK, "40 group 1; 41 corrupt; 60 virtual 1"},
		"an object with MaxRefs":                        {"40 group 1 a=60; 60 virtual 1000", impl.OK, "40 group 1; 60 virtual 999"},
		"a target that is no object":                    {"40 group 1 a=70", impl.ErrCorrupt, ""},
		"a target that is the allocation page":          {"40 group 1 a=32", impl.ErrCorrupt, ""},
		"a target that is no block":                     {"40 group 1 a=255", impl.ErrCorrupt, ""},
		"a target that is no object on the way":         {"40 group 1 a=41; 41 group 1 b=60 c=70; 60 virtual 1", impl.ErrCorrupt, ""},
		"a target that is no object further below":      {"40 group 1 a=41; 41 group 1 b=42; 42 group 1 c=70", impl.ErrCorrupt, ""},
		"other wrong links":                             {"40 group 1 a=60 b=70 c=60; 60 virtual 1", impl.OK, "40 group 1 b=70 c=60; 60 corrupt; 70 corrupt"},
		"a group with more Refs":                        {"40 group 1 a=41; 41 group 7 b=70", impl.OK, "40 group 1; 41 group 6 b=70"},
		"the root itself":                               {"40 group 2 a=40", impl.OK, "40 group 1"},
		"the root itself that is not counted":           {"40 group 1 a=40 b=60; 60 virtual 1", impl.OK, "40 corrupt; 60 corrupt"},
	} {
		after, code := checkRemoveLink(t, what, storeIn(t, c.store), 40, "a")
		check(t, what, code, c.code)
		if code == impl.OK {
			var all []int64
			for _, part := range strings.Split(c.want, ";") {
				all = append(all, thingIn(strings.ReplaceAll(part, "corrupt", "virtual 0")).at)
			}
			check(t, what, thingsText(after, all...), c.want)
		}
	}
	// Groups that are none, on the way.
	for what, h := range badFolders() {
		for _, refs := range []int64{0, 1, 2} {
			h.Refs = refs
			want := int64(impl.OK)
			if refs == 0 || refs == 1 && h.Kind != impl.ObVirtual {
				want = impl.ErrCorrupt
			}
			p := storeWith(t, 40, thing{40, folderHeader(1, hard("a", 50), hard("b", 60))}, thing{50, folderHeader(1, hard("c", 60))}, thing{60, h})
			_, code := checkRemoveLink(t, what, p, 40, "a")
			_, otherCode := checkRemoveLink(t, what, p, 40, "b")
			check(t, shown(what, refs), []int64{code, otherCode}, []int64{want, want})
		}
	}
}

// Datasets are released with their indexes and the runs of their chunks when their
// last link is removed, and not before.
func TestP19DatasetsAreFreed(t *testing.T) {
	p, root := rooted(t, 120, 50)
	free := impl.FreeCount(p)
	p, one, _ := checkCreateGroup(t, "datasets", p, root, "one")
	p, two, _ := checkCreateGroup(t, "datasets", p, one, "two")
	p, a, _ := checkCreateDataset(t, "datasets", p, two, "a", setOf(t, "u1 (16) 1 none 2d"))
	p, _ = checkWriteData(t, "datasets", p, a, selectAll, intType(1, false, false), "abcdefghijklmnop")
	p, b, _ := checkCreateDataset(t, "datasets", p, one, "b", setOf(t, "i8 (8,8) 8,8 sum "+strings.Repeat("00", 8)))
	p, _ = checkWriteChunk(t, "datasets", p, b, 0, allBytes(512))
	p, _ = checkAddLink(t, "datasets", p, root, "a", a)
	p, _ = checkAddLink(t, "datasets", p, two, "b", b)
	checkClean(t, "datasets", p)
	check(t, "the datasets", storeText(p), fmt.Sprintf("%d group 1 a=%d one=%d; %d dataset 2; %d group 1 b=%d two=%d; %d dataset 2; %d group 1 a=%d b=%d", root, a, one, a, one, b, two, b, two, a, b))
	p, _ = impl.Commit(p)
	for _, c := range []struct {
		group int64
		name  string
		want  int64 // the blocks that are in use behind it, but for the root group
	}{{two, "b", 2 + 21 + 11}, {one, "two", 1 + 21 + 11}, {one, "b", 1 + 21}, {root, "one", 21}, {root, "a", 0}} {
		var code int64
		p, code = checkRemoveLink(t, "datasets", p, c.group, c.name)
		check(t, shown("RemoveLink", c.name), []int64{code, free - impl.FreeCount(p)}, []int64{impl.OK, c.want})
		checkClean(t, "datasets", p)
		p, _ = impl.Commit(p)
	}
	check(t, "nothing is left", storeText(p), fmt.Sprint(root, " group 1"))
}

// Groups with datasets, which are deleted in one step, and datasets that cannot be released.
func TestP19DatasetsOnTheWay(t *testing.T) {
	p, at, d := storeOfSet(t, byteSet, map[int64]string{0: "abcd", 1: "e-g-", 16: "ijkl"})
	p, group, _ := checkCreateGroup(t, "way", p, 67, "group")
	p, _ = checkAddLink(t, "way", p, group, "set", at)
	p, other, _ := checkCreateDataset(t, "way", p, group, "other", setOf(t, byteSet))
	p, _ = checkWriteChunk(t, "way", p, other, 0, "abcd")
	p, _ = checkRemoveLink(t, "way", p, 67, "set")
	checkClean(t, "way", p)
	check(t, "the datasets", storeText(p), fmt.Sprintf("67 group 1 group=%d; %d group 1 other=%d set=%d; %d dataset 1; %d dataset 1", group, group, other, at, other, at))
	after, code := checkRemoveLink(t, "way", p, 67, "group")
	check(t, "RemoveLink", []any{code, storeText(after), impl.FreeCount(after)}, []any{int64(impl.OK), "67 group 1", int64(188)})
	for what, q := range map[string]impl.Pager{
		"a run that is not allocated": withEntry(t, p, d, chunkAt(0, 200, 4, 0), ""), "a run that is released twice": withEntry(t, p, d, chunkAt(0, 71, 4, 0), ""), "no index": withPages(t, p, pageAt(d.Index, blockOf("x"))), "no dataset": first2(impl.WriteHeader(p, at, headerOf(impl.ObDataset, 1))),
	} {
		_, code := checkRemoveLink(t, what, q, 67, "group")
		_, otherCode := checkRemoveLink(t, what, q, group, "other")
		check(t, what, []int64{code, otherCode}, []int64{impl.ErrCorrupt, impl.OK})
	}
}

func first2(p impl.Pager, code int64) impl.Pager {
	return p
}

// Objects that can be reached, in their order.
func TestP19ObjectsInOrder(t *testing.T) {
	for text, want := range map[string][]int64{
		"40 group 1":               {40},
		"40 virtual 1":             {40},
		"40 dataset 1; 41 group 1": {40},
		"40 group 1 a=99 b=98 c=50; 50 group 1; 98 virtual 1; 99 dataset 1":                                        {40, 99, 98, 50},
		"40 group 1 a=50 b=60 c>/d; 50 group 1 x=70 y=80; 60 group 1 z=90; 70 group 1; 80 virtual 1; 90 virtual 1": {40, 50, 70, 80, 60, 90},
		"40 group 1 a=60 b=50 c=60; 50 group 1 x=60 y=70; 60 virtual 3; 70 virtual 1":                              {40, 60, 50, 70},
		"40 group 1 a=50 b=60; 50 group 1 x=60; 60 group 2 y=70; 70 virtual 1":                                     {40, 50, 60, 70},
		"40 group 1 a=50; 50 group 2 b=60; 60 group 1 up=50 root=40":                                               nil,
		"40 group 1 a=50; 50 group 2 b=60; 60 group 1 root=40 up=50":                                               {40, 50, 60},
		"40 group 1 a=40 b=50; 50 virtual 0":                                                                       {40, 50},
		"40 group 1 a=50 b=70; 50 virtual 1":                                                                       nil,
		"40 group 1 a=50; 50 group 1 b=51":                                                                         nil,
		"40 group 1 a=32":                                                                                          nil,
		"40 group 1 a=255":                                                                                         nil,
		"40 group 1 a>/none b>/b":                                                                                  {40},
	} {
		list, code := checkObjectsOf(t, text, storeIn(t, text))
		wantCode := int64(impl.OK)
		if want == nil {
			wantCode = impl.ErrCorrupt
		}
		checkValues(t, text, []any{list, code}, []any{want, wantCode})
	}
	for what, h := range badFolders() {
		list, code := checkObjectsOf(t, what, storeWith(t, 40, thing{40, folderHeader(1, hard("a", 41))}, thing{41, folderHeader(1, hard("b", 50))}, thing{50, h}))
		if h.Kind == impl.ObGroup {
			checkValues(t, what, []any{list, code}, []any{[]int64{}, impl.ErrCorrupt})
		} else {
			checkValues(t, what, []any{list, code}, []any{[]int64{40, 41, 50}, impl.OK})
		}
	}
}

// Stores with as many objects as there may be, and more.
func TestP19ManyObjects(t *testing.T) {
	for count, want := range map[int64]int64{2: impl.OK, 22: impl.OK, 23: impl.OK, 24: impl.ErrFull, 25: impl.ErrFull, 37: impl.ErrFull} {
		things := []thing{thingIn("40 group 1 a=41 b=42 c=43"), thingIn("90 virtual 0")}
		below := [][]impl.Link{nil, nil, nil}
		for i := range count - 1 {
			if i < 3 {
				continue
			}
			at := 41 + i
			below[i/3%3] = append(below[i/3%3], hard(fmt.Sprintf("n%02d", i), at))
			things = append(things, thing{at, headerOf(impl.ObVirtual, 1)})
		}
		for i, links := range below {
			things = append(things, thing{int64(41 + i), folderHeader(1, links...)})
		}
		if count == 2 {
			things = []thing{thingIn("40 group 1 a=41"), thingIn("41 group 1"), thingIn("90 virtual 0")}
		}
		p := storeWith(t, 40, things...)
		all, _ := checkObjectsOf(t, "many", p)
		check(t, "objects", int64(len(all)), count)
		codes := groupCodes(t, "many", p, 40)
		check(t, shown("codes", count), codes[:4], []int64{impl.OK, want, impl.OK, impl.OK})
		_, _, code := checkCreateGroup(t, "many", p, 41, "new")
		check(t, shown("CreateGroup", count), code, want)
		_, _, code = checkCreateGroup(t, "many", p, 40, "a")
		check(t, "a name that is there", code, int64(impl.ErrExists))
		// An object more is counted only if a link leads to it.
		if count == 23 {
			after, _ := checkAddLink(t, "many", p, 40, "z", 90)
			_, _, code = checkCreateGroup(t, "many", after, 40, "new")
			check(t, "CreateGroup", code, int64(impl.ErrFull))
		}
	}
}

// roomCodes returns the codes of changes of a store.
func roomCodes(t *testing.T, what string, p impl.Pager) []int64 {
	t.Helper()
	_, _, code := checkCreateGroup(t, what, p, 40, "new")
	codes := []int64{code}
	_, code = checkAddLink(t, what, p, 40, "new", 60)
	codes = append(codes, code)
	_, code = checkAddSoftLink(t, what, p, 40, "new", "/a")
	codes = append(codes, code)
	_, code = checkRemoveLink(t, what, p, 40, "a")
	codes = append(codes, code)
	_, code = checkRemoveLink(t, what, p, 40, "s")
	return append(codes, code)
}

// Transactions with little room, and stores with few free blocks.
func TestP19StoresWithLittleRoom(t *testing.T) {
	// The log takes 28 pages. The changes need those of the groups 40 (which has one
	// block, or two with one more link, or two) and 41, of the objects, and of the
	// allocation if a chain changes its length.
	one := "40 group 1 a=41 s>/a; 41 group 1 b=60; 60 virtual 1"
	almostTwo := "40 group 1 a=41 s>" + pathOfLength(34) + "; 41 group 1 b=60 c=60 d=61; 60 virtual 2; 61 virtual 1"
	two := "40 group 1 a=60 s>" + pathOfLength(43) + "; 60 virtual 2"
	for text, needed := range map[string][]int{one: {3, 2, 1, 4, 1}, almostTwo: {4, 4, 3, 5, 1}, two: {4, 3, 2, 3, 2}} {
		for room := range 7 {
			p := storeIn(t, text)
			p = withPages(t, p, pagesAt("dirty", numbersFrom(70, 97-int64(room))...)...)
			for i, code := range roomCodes(t, shown(text, "room", room), p) {
				check(t, shown(text, "room", room, i), []any{code == impl.OK, code == impl.ErrFull}, []any{needed[i] <= room, needed[i] > room})
			}
		}
	}
	for text, needed := range map[string][]int{one: {1, 0, 0, 0, 0}, almostTwo: {2, 1, 1, 0, 0}, two: {1, 0, 0, 0, 0}} {
		for free := range 4 {
			p := storeIn(t, text)
			_, area := areaOf(p)
			for _, run := range freeIn(p) {
				area = withBits(area, true, numbersFrom(run.At, run.At+run.Count-1)...)
			}
			p = withArea(p, 0, withBits(area, false, numbersFrom(71, 70+int64(free))...))
			for i, code := range roomCodes(t, shown(text, "free", free), p) {
				check(t, shown(text, "free", free, i), []any{code == impl.OK, code == impl.ErrFull}, []any{needed[i] <= free, needed[i] > free})
			}
		}
	}
}

// tree is a store with what is known of its objects: their kinds, and the links
// of the groups.
type tree struct {
	t     *testing.T
	m     typeMaker
	p     impl.Pager
	root  int64
	kinds map[int64]int64
	links map[int64]map[string]impl.Link
	codes map[string]int
}

func newTree(t *testing.T, m typeMaker, blocks, log int64, codes map[string]int) *tree {
	t.Helper()
	p, code := checkFormat(t, "history", emptyStore(t, blocks, log))
	check(t, "FormatGroups", code, int64(impl.OK))
	p, code = impl.Commit(p)
	check(t, "Commit", code, int64(impl.OK))
	root, _ := impl.RootOf(p)
	return &tree{t, m, p, root, map[int64]int64{root: impl.ObGroup}, map[int64]map[string]impl.Link{root: {}}, codes}
}

func (x *tree) place() *impl.Pager {
	return &x.p
}

// copied returns a tree that changes of this one do not affect.
func (x *tree) copied() *tree {
	other := *x
	other.kinds, other.links = maps.Clone(x.kinds), map[int64]map[string]impl.Link{}
	for at, links := range x.links {
		other.links[at] = maps.Clone(links)
	}
	return &other
}

// drawObject returns an object that is, or is not, a group.
func (x *tree) drawObject(isGroup bool) (int64, bool) {
	var all []int64
	for _, at := range slices.Sorted(maps.Keys(x.kinds)) {
		if (x.kinds[at] == impl.ObGroup) == isGroup {
			all = append(all, at)
		}
	}
	if len(all) == 0 {
		return 0, false
	}
	return all[x.m.IntN(len(all))], true
}

var treeNames = []string{"a", "b", "B", "c1", "dd", "e_long_name", "f", "g", "Zz", "h", "i", "j", "k", "abcdefghijkl"}

// act makes one drawn change, and takes it over if it succeeds.
func (x *tree) act() {
	group, _ := x.drawObject(true)
	name := treeNames[x.m.IntN(len(treeNames))]
	kind := []string{"group", "group", "object", "link", "link", "soft", "remove", "remove", "remove"}[x.m.IntN(9)]
	if there := slices.Sorted(maps.Keys(x.links[group])); kind == "remove" && len(there) > 0 && x.m.IntN(4) > 0 {
		name = there[x.m.IntN(len(there))]
	}
	old, exists := x.links[group][name]
	var p impl.Pager
	var code int64
	link := hard(name, 0)
	switch kind {
	case "group":
		p, link.Target, code = checkCreateGroup(x.t, "history", x.p, group, name)
	case "object":
		p, link.Target, code = checkCreate(x.t, "history", x.p, headerOf(impl.ObVirtual, 0, manyMessages(x.m.IntN(3), x.m.IntN(30))...))
		if code == impl.OK {
			p, code = checkAddLink(x.t, "history", p, group, name, link.Target)
		}
	case "link":
		target, ok := x.drawObject(false)
		if !ok {
			return
		}
		link.Target = target
		p, code = checkAddLink(x.t, "history", x.p, group, name, target)
	case "soft":
		link = soft(name, x.m.drawPath(treeNames))
		p, code = checkAddSoftLink(x.t, "history", x.p, group, name, link.Path)
	default:
		p, code = checkRemoveLink(x.t, "history", x.p, group, name)
		exists = !exists
	}
	x.codes[shown(kind, code)]++
	if exists {
		check(x.t, shown("the code of", kind), code == impl.ErrExists || code == impl.ErrNotFound || code == impl.ErrFull && kind == "object", true)
	}
	if code != impl.OK {
		return
	}
	x.p = p
	if kind == "remove" {
		delete(x.links[group], name)
		x.unlink(old)
		return
	}
	x.links[group][name] = link
	switch kind {
	case "group":
		x.kinds[link.Target], x.links[link.Target] = impl.ObGroup, map[string]impl.Link{}
	case "object":
		x.kinds[link.Target] = impl.ObVirtual
	}
}

// refs returns how many hard links lead to an object.
func (x *tree) refs(at int64) int64 {
	count := int64(0)
	if at == x.root {
		count++
	}
	for _, links := range x.links {
		for _, link := range links {
			if link.Path == "" && link.Target == at {
				count++
			}
		}
	}
	return count
}

// unlink forgets the object to which a link that was removed led, if no other
// link leads to it.
func (x *tree) unlink(old impl.Link) {
	if old.Path != "" || x.refs(old.Target) > 0 {
		return
	}
	below := x.links[old.Target]
	delete(x.links, old.Target)
	delete(x.kinds, old.Target)
	for _, name := range slices.Sorted(maps.Keys(below)) {
		x.unlink(below[name])
	}
}

// follow returns the object at a path, or a code.
func (x *tree) follow(names []string) (int64, int64) {
	at, followed := x.root, 0
	for i := 0; i < len(names); i++ {
		if x.kinds[at] != impl.ObGroup {
			return 0, impl.ErrType
		}
		link, ok := x.links[at][names[i]]
		switch {
		case !ok:
			return 0, impl.ErrNotFound
		case link.Path == "":
			at = link.Target
			continue
		case followed == 8:
			return 0, impl.ErrLoop
		}
		followed++
		names = append(strings.FieldsFunc(link.Path, func(c rune) bool { return c == '/' }), names[i+1:]...)
		at, i = x.root, -1
	}
	return at, impl.OK
}

// checkAll checks all objects and links, that Refs are the numbers of hard
// links, and that the chains of the objects are exactly the blocks that are allocated.
func (x *tree) checkAll() {
	x.t.Helper()
	all, code := checkObjectsOf(x.t, "history", x.p)
	check(x.t, "ObjectsOf", code, int64(impl.OK))
	slices.Sort(all)
	check(x.t, "objects", all, slices.Sorted(maps.Keys(x.kinds)))
	var chains [][]int64
	for _, at := range all {
		h, code := impl.ReadHeader(x.p, at)
		check(x.t, shown("object", at), []int64{code, h.Kind, h.Refs}, []int64{impl.OK, x.kinds[at], x.refs(at)})
		if h.Kind == impl.ObGroup {
			var want []impl.Link
			for _, name := range slices.Sorted(maps.Keys(x.links[at])) {
				want = append(want, x.links[at][name])
			}
			checkOnlyLinks(x.t, "history", x.p, at, want...)
		}
		blocks, _ := impl.HeaderBlocks(x.p, at)
		chains = append(chains, blocks)
	}
	checkOwners(x.t, "history", x.p, chains...)
	for range 3 {
		path := x.m.drawPath(treeNames[:x.m.between(1, 14)])
		names, _ := impl.SplitPath(path)
		at, code := impl.FindPath(x.p, path)
		want, wantCode := x.follow(names)
		check(x.t, shown("FindPath", path), []int64{at, code}, []int64{want, wantCode})
		x.codes[shown("path", code)]++
	}
}

// Histories with transactions that are abandoned, and power cuts behind a
// synchronization.
func TestP19Histories(t *testing.T) {
	m := newTypeMaker(134)
	codes := map[string]int{}
	for i := range 32 {
		blocks := []int64{60, 100, 120, 30}[i%4]
		x := newTree(t, m, blocks, []int64{blocks / 2, blocks / 3, 12, 9}[m.IntN(4)], codes)
		runHistory(t, m, x, 150, 40, 7)
	}
	for _, name := range []string{"group 0", "group 4", "group 5", "object 0", "object 4", "link 0", "link 4", "link 5", "soft 0", "soft 4", "soft 5", "remove 0", "remove 3", "path 0", "path 3", "path 7", "path 11"} {
		if codes["["+name+"]"] < 10 {
			t.Errorf("too few of %s: %v", name, codes)
		}
	}
}

// groupResults returns what all functions of the chapter return.
func groupResults(p impl.Pager, at, target int64, name, path, form string, list []impl.Link, h impl.NameHeap) []any {
	names, isPath := impl.SplitPath(path)
	encoded, ok := impl.EncodeLinks(list, h)
	decoded, isForm := impl.DecodeLinks(form, h)
	formatted, formatCode := impl.FormatGroups(p)
	links, linksCode := impl.LinksOf(p, at)
	found, foundCode := impl.FindPath(p, path)
	grouped, group, groupCode := impl.CreateGroup(p, at, name)
	linked, linkCode := impl.AddLink(p, at, name, target)
	pointed, softCode := impl.AddSoftLink(p, at, name, path)
	removed, removeCode := impl.RemoveLink(p, at, name)
	objects, objectsCode := impl.ObjectsOf(p)
	return []any{impl.ValidPath(path), names, isPath, impl.ValidLinks(list), encoded, ok, decoded, isForm, formatted, formatCode, links, linksCode, found, foundCode, grouped, group, groupCode, linked, linkCode, pointed, softCode, removed, removeCode, objects, objectsCode}
}

func TestP1GroupsReturnForAllArguments(t *testing.T) {
	numbers, texts := oddNumbers(), oddStrings()
	circle := "40 group 3 a=41 b=42 c=40; 41 group 1 b=42 up=40; 42 group 2 a=41 me=42 up=40"
	pagers := append(badPagers(), fullPager(), storeIn(t, softLinks), storeIn(t, circle), sharedStore(t, "\x03\x05\x00\x01\x06\x00\x06", "\x03\x01\x00\x00", hard("abcd", 40)), withRoot(storeIn(t, softLinks), 0))
	lists, heaps := append(badLinks(), goodLinks()...), append(badHeaps(), goodHeaps()...)
	for i, number := range numbers {
		list, h := lists[i*7%len(lists)], heaps[i*11%len(heaps)]
		text, form := texts[i*3%len(texts)], strings.Repeat(texts[i*13%len(texts)], i*37%200)
		wild := []impl.Link{{Name: text, Target: number, Path: form}, {Name: form, Target: numbers[i*5%len(numbers)], Path: "/" + text}}
		for _, p := range append(pagers[len(pagers)-5:], pagers[i*5%len(pagers)]) {
			name := []string{text, "a", "b", "up", "new"}[i%5]
			path := []string{text, "/" + text, "/a/b/me", "/l1", "/a/up"}[i%5]
			checkShown(t, "second call", shown(groupResults(roomyPager(p), number, number, name, path, form, roomyLinks(list), roomyHeap(h))...), shown(groupResults(p, number, number, name, path, form, list, h)...))
			checkShown(t, "second call", shown(groupResults(roomyPager(p), 40+int64(i)%4, 40+int64(i)/4%5, name, path, form, roomyLinks(wild), roomyHeap(h))...), shown(groupResults(p, 40+int64(i)%4, 40+int64(i)/4%5, name, path, form, wild, h)...))
		}
	}
}

func TestP1GroupsAreNotModified(t *testing.T) {
	m := newTypeMaker(135)
	for range 150 {
		list := m.drawLinks(8)
		h := m.drawHeapOf(list)
		p := storeWith(t, 40, thingIn("40 group 1 a=50 b=60 c>/a/b d>/x"), thing{50, folderWith(1, h, list)}, thingIn("60 virtual 7"))
		p.Logged = m.drawPages(5, 70, 90)
		p = roomyPager(p)
		at, target := []int64{40, 50, 50, 60}[m.IntN(4)], []int64{60, 50, 70}[m.IntN(3)]
		name := append([]string{"a", "b", "c", "new"}, h.Names...)[m.IntN(4+len(h.Names))]
		path, form := m.drawPath([]string{"a", "b", "c", "d"}), ""
		form, _ = formOfLinks(list, h)
		list, h = roomyLinks(list), roomyHeap(h)
		before := shown(widePager(p), wideLinks(list), wideHeap(h))
		results := groupResults(p, at, target, name, path, form, list, h)
		checkNew(t, "results", []any{p, list, h}, results...)
		first := shown(results...)
		second := shown(groupResults(p, at, target, name, path, form, list, h)...)
		checkShown(t, "the arguments after the calls", shown(widePager(p), wideLinks(list), wideHeap(h)), before)
		checkShown(t, "second call", second, first)
	}
}
