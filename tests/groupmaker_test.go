package tests

import (
	"fmt"
	"regexp"
	"slices"
	"strconv"
	"strings"
	"testing"

	"loop.example/g00904/impl"
)

var pathForm = regexp.MustCompile(`^(/|(/[A-Za-z][A-Za-z0-9_]{0,11}){1,6})$`)

func hard(name string, target int64) impl.Link {
	return impl.Link{Name: name, Target: target}
}

func soft(name, path string) impl.Link {
	return impl.Link{Name: name, Path: path}
}

// isLinkList tells what impl.ValidLinks should tell.
func isLinkList(list []impl.Link) bool {
	for i, x := range list {
		isHard := x.Path == "" && isBetween(1, x.Target, 255)
		isSoft := pathForm.MatchString(x.Path) && x.Target == 0
		if !nameForm.MatchString(x.Name) || !isHard && !isSoft || i > 0 && x.Name <= list[i-1].Name {
			return false
		}
	}
	return len(list) <= 12
}

// slotsOf returns the slots of a heap by their names.
func slotsOf(h impl.NameHeap) map[string][]byte {
	slots := map[string][]byte{}
	for k, name := range h.Names {
		if name != "" {
			slots[name] = append(slots[name], byte(k))
		}
	}
	return slots
}

// formOfLinks tells what impl.EncodeLinks should return.
func formOfLinks(list []impl.Link, h impl.NameHeap) (string, bool) {
	slots := slotsOf(h)
	if !isLinkList(list) || !isHeap(h) || len(slots) != len(list) {
		return "", false
	}
	var form []byte
	for _, x := range list {
		if len(slots[x.Name]) != 1 {
			return "", false
		}
		form = append(form, slots[x.Name][0], byte(len(x.Path)))
		form = append(form, x.Path...)
		if x.Path == "" {
			form = append(form, byte(x.Target), byte(x.Target/256))
		}
	}
	return string(form), true
}

// linksFrom tells what impl.DecodeLinks should return.
func linksFrom(s string, h impl.NameHeap) ([]impl.Link, bool) {
	if !isHeap(h) {
		return nil, false
	}
	var list []impl.Link
	used := map[byte]bool{}
	for s != "" {
		if len(s) < 2 {
			return nil, false
		}
		slot, size := s[0], int(s[1])
		name, ok := nameIn(h, int64(slot))
		s = s[2:]
		if !ok || used[slot] || len(s) < size || size == 0 && len(s) < 2 {
			return nil, false
		}
		used[slot] = true
		if size == 0 {
			list = append(list, hard(name, int64(s[0])+256*int64(s[1])))
			s = s[2:]
		} else {
			list = append(list, soft(name, s[:size]))
			s = s[size:]
		}
	}
	for k := range h.Names {
		if h.Names[k] != "" && !used[byte(k)] {
			return nil, false
		}
	}
	if !isLinkList(list) {
		return nil, false
	}
	return list, true
}

// folder is what a group consists of.
type folder struct {
	header impl.Header
	heap   impl.NameHeap
	links  []impl.Link
}

// folderIn returns the group at a number, or the code of impl.LinksOf.
func folderIn(p impl.Pager, at int64) (folder, int64) {
	_, h, code := objectIn(p, at)
	switch {
	case code != impl.OK:
		return folder{}, code
	case h.Kind != impl.ObGroup:
		return folder{}, impl.ErrType
	}
	data := map[int64][]string{}
	for _, m := range h.Messages {
		if m.Flags == 0 {
			data[m.Kind] = append(data[m.Kind], m.Data)
		} else {
			data[m.Kind] = append(data[m.Kind], "bad", "bad")
		}
	}
	names, links := data[impl.MsNames], data[impl.MsLinks]
	if len(names) != 1 || len(links) != 1 {
		return folder{}, impl.ErrCorrupt
	}
	heap, isHeap := heapFrom(names[0])
	list, ok := linksFrom(links[0], heap)
	if !isHeap || !ok {
		return folder{}, impl.ErrCorrupt
	}
	return folder{h, heap, list}, impl.OK
}

// link returns the link of a group with a name.
func (f folder) link(name string) (impl.Link, bool) {
	i := slices.IndexFunc(f.links, func(x impl.Link) bool { return x.Name == name })
	if i < 0 {
		return impl.Link{}, false
	}
	return f.links[i], true
}

// saved writes the header of a group with its heap and links.
func (f folder) saved(p impl.Pager, at int64) (impl.Pager, int64) {
	names := formOfHeap(f.heap)
	links, _ := formOfLinks(f.links, f.heap)
	if len(names) > 200 || len(links) > 200 {
		return impl.Pager{}, impl.ErrFull
	}
	h := f.header
	h.Messages = slices.Clone(h.Messages)
	for i := range h.Messages {
		switch h.Messages[i].Kind {
		case impl.MsNames:
			h.Messages[i].Data = names
		case impl.MsLinks:
			h.Messages[i].Data = links
		}
	}
	return rewrittenIn(p, at, h)
}

// linkedIn adds a link to a group.
func linkedIn(p impl.Pager, at int64, x impl.Link) (impl.Pager, int64) {
	f, code := folderIn(p, at)
	if code != impl.OK {
		return impl.Pager{}, code
	}
	f.heap, _, code = putIn(f.heap, x.Name)
	if code != impl.OK {
		return impl.Pager{}, code
	}
	f.links = append(slices.Clone(f.links), x)
	slices.SortFunc(f.links, func(a, b impl.Link) int { return strings.Compare(a.Name, b.Name) })
	return f.saved(p, at)
}

// refusal returns the code of the first errors of the functions that add a link.
func refusal(p impl.Pager, at int64, name string) int64 {
	f, code := folderIn(p, at)
	_, exists := f.link(name)
	switch {
	case !isPager(p) || !nameForm.MatchString(name):
		return impl.ErrInvalid
	case code != impl.OK:
		return code
	case exists:
		return impl.ErrExists
	case len(f.links) == 12:
		return impl.ErrFull
	}
	return impl.OK
}

// formattedIn tells what impl.FormatGroups should return.
func formattedIn(p impl.Pager) (impl.Pager, int64) {
	switch {
	case !isPager(p):
		return impl.Pager{}, impl.ErrInvalid
	case rootIn(p) != 0:
		return impl.Pager{}, impl.ErrState
	}
	p, at, code := createdIn(p, folderHeader(1))
	if code != impl.OK {
		return impl.Pager{}, code
	}
	return rootedIn(p, at)
}

// foundIn tells what impl.FindPath should return.
func foundIn(p impl.Pager, path string) (int64, int64) {
	switch {
	case !isPager(p) || !pathForm.MatchString(path):
		return 0, impl.ErrInvalid
	case rootIn(p) == 0:
		return 0, impl.ErrState
	}
	at, followed := rootIn(p), 0
	rest := strings.Trim(path, "/")
	for rest != "" {
		f, code := folderIn(p, at)
		if code != impl.OK {
			return 0, code
		}
		name, behind, _ := strings.Cut(rest, "/")
		x, ok := f.link(name)
		if !ok {
			return 0, impl.ErrNotFound
		}
		at, rest = x.Target, behind
		if x.Path == "" {
			continue
		}
		if followed++; followed > 8 {
			return 0, impl.ErrLoop
		}
		at, rest = rootIn(p), strings.Trim(x.Path+"/"+behind, "/")
	}
	return at, impl.OK
}

// reachedIn tells what impl.ObjectsOf should return.
func reachedIn(p impl.Pager) ([]int64, int64) {
	switch {
	case !isPager(p):
		return nil, impl.ErrInvalid
	case rootIn(p) == 0:
		return nil, impl.ErrState
	}
	var list []int64
	for rest := []int64{rootIn(p)}; len(rest) > 0; {
		at := rest[0]
		rest = rest[1:]
		if slices.Contains(list, at) {
			continue
		}
		if _, _, code := objectIn(p, at); code != impl.OK {
			return nil, code
		}
		list = append(list, at)
		f, code := folderIn(p, at)
		if code == impl.ErrCorrupt {
			return nil, code
		}
		var below []int64
		for _, x := range f.links {
			if x.Path == "" {
				below = append(below, x.Target)
			}
		}
		rest = append(below, rest...)
	}
	return list, impl.OK
}

// objectCreatedIn creates an object with a name in a group by a function.
func objectCreatedIn(p impl.Pager, parent int64, name string, create func(p impl.Pager) (impl.Pager, int64, int64)) (impl.Pager, int64, int64) {
	if code := refusal(p, parent, name); code != impl.OK {
		return impl.Pager{}, 0, code
	}
	all, code := reachedIn(p)
	switch {
	case code != impl.OK:
		return impl.Pager{}, 0, code
	case len(all) > 23:
		return impl.Pager{}, 0, impl.ErrFull
	}
	p, at, code := create(p)
	if code != impl.OK {
		return impl.Pager{}, 0, code
	}
	p, code = linkedIn(p, parent, hard(name, at))
	if code != impl.OK {
		return impl.Pager{}, 0, code
	}
	return p, at, impl.OK
}

// groupedIn tells what impl.CreateGroup should return.
func groupedIn(p impl.Pager, parent int64, name string) (impl.Pager, int64, int64) {
	return objectCreatedIn(p, parent, name, func(p impl.Pager) (impl.Pager, int64, int64) { return createdIn(p, folderHeader(1)) })
}

// namedIn tells what impl.AddLink should return.
func namedIn(p impl.Pager, group int64, name string, target int64) (impl.Pager, int64) {
	if code := refusal(p, group, name); code != impl.OK {
		return impl.Pager{}, code
	}
	_, h, code := objectIn(p, target)
	switch {
	case code != impl.OK:
		return impl.Pager{}, code
	case h.Kind == impl.ObGroup:
		return impl.Pager{}, impl.ErrType
	case h.Refs == 1000:
		return impl.Pager{}, impl.ErrFull
	}
	p, code = linkedIn(p, group, hard(name, target))
	if code != impl.OK {
		return impl.Pager{}, code
	}
	_, h, code = objectIn(p, target)
	switch {
	case code != impl.OK:
		return impl.Pager{}, code
	case h.Refs == 1000:
		return impl.Pager{}, impl.ErrFull
	}
	h.Refs++
	return rewrittenIn(p, target, h)
}

// pointedIn tells what impl.AddSoftLink should return.
func pointedIn(p impl.Pager, group int64, name, path string) (impl.Pager, int64) {
	code := refusal(p, group, name)
	switch {
	case !pathForm.MatchString(path):
		return impl.Pager{}, impl.ErrInvalid
	case code != impl.OK:
		return impl.Pager{}, code
	}
	return linkedIn(p, group, soft(name, path))
}

// unlinkedIn tells what impl.RemoveLink should return.
func unlinkedIn(p impl.Pager, group int64, name string) (impl.Pager, int64) {
	f, code := folderIn(p, group)
	if code != impl.OK {
		return impl.Pager{}, code
	}
	x, ok := f.link(name)
	if !ok {
		return impl.Pager{}, impl.ErrNotFound
	}
	f.heap, _ = droppedIn(f.heap, slotIn(f.heap, name))
	f.links = slices.DeleteFunc(slices.Clone(f.links), func(x impl.Link) bool { return x.Name == name })
	p, code = f.saved(p, group)
	if code != impl.OK || x.Path != "" {
		return p, code
	}
	return releasedFrom(p, x.Target)
}

// releasedFrom drops a reference to an object.
func releasedFrom(p impl.Pager, at int64) (impl.Pager, int64) {
	_, h, code := objectIn(p, at)
	if code != impl.OK || h.Refs == 0 {
		return impl.Pager{}, impl.ErrCorrupt
	}
	h.Refs--
	p, code = rewrittenIn(p, at, h)
	if code != impl.OK || h.Refs > 0 {
		return p, code
	}
	if h.Kind == impl.ObDataset {
		return setFreedIn(p, at)
	}
	f, code := folderIn(p, at)
	if code == impl.ErrCorrupt {
		return impl.Pager{}, code
	}
	for _, x := range f.links {
		if x.Path != "" {
			continue
		}
		if p, code = releasedFrom(p, x.Target); code != impl.OK {
			return impl.Pager{}, code
		}
	}
	return withoutObject(p, at)
}

// heapOfLinks returns a heap with the names of links in their order.
func heapOfLinks(list []impl.Link) impl.NameHeap {
	var h impl.NameHeap
	for _, x := range list {
		h.Names = append(h.Names, x.Name)
	}
	return h
}

// folderHeader returns the header of a group, the links of which are in order.
func folderHeader(refs int64, links ...impl.Link) impl.Header {
	return folderWith(refs, heapOfLinks(links), links)
}

// folderWith returns the header of a group with the names in any slots, and
// other messages behind the two of the group.
func folderWith(refs int64, heap impl.NameHeap, links []impl.Link, others ...impl.Message) impl.Header {
	form, _ := formOfLinks(links, heap)
	return headerOf(impl.ObGroup, refs, append([]impl.Message{message(impl.MsNames, 0, formOfHeap(heap)), message(impl.MsLinks, 0, form)}, others...)...)
}

// thing is an object at a number.
type thing struct {
	at int64
	h  impl.Header
}

// storeWith returns a store of 100 blocks, of which 33 to 99 are data blocks,
// with some objects and a root. The first block of each object is at its
// number, and all others are at the end of the store.
func storeWith(t *testing.T, root int64, things ...thing) impl.Pager {
	t.Helper()
	var pages []impl.Page
	last := int64(99)
	for _, x := range things {
		chain := []int64{x.at}
		for len(chain) < chainBlocks(x.h) {
			chain = append(chain, last)
			last--
		}
		pages = append(pages, chainOf(formOf(x.h), chain)...)
	}
	return withRoot(onDisk(t, 100, 30, pages...), root)
}

// withRoot returns the pager of a store with another root.
func withRoot(p impl.Pager, root int64) impl.Pager {
	_, area := areaOf(p)
	return withArea(p, 0, string([]byte{byte(root), byte(root / 256)})+area[2:])
}

var kindWords = []string{"", "group", "dataset", "virtual"}

// thingIn returns the object of a text: its number, kind and Refs, and for each
// link of a group, in order, name=target or name>path.
func thingIn(text string) thing {
	words := strings.Fields(text)
	numbers := []int64{0, 0}
	for i, word := range []string{words[0], words[2]} {
		numbers[i], _ = strconv.ParseInt(word, 10, 64)
	}
	at, kind, refs := numbers[0], int64(slices.Index(kindWords, words[1])), numbers[1]
	if kind != impl.ObGroup {
		return thing{at, headerOf(kind, refs)}
	}
	var links []impl.Link
	for _, word := range words[3:] {
		if name, path, isSoft := strings.Cut(word, ">"); isSoft {
			links = append(links, soft(name, path))
			continue
		}
		name, number, _ := strings.Cut(word, "=")
		target, _ := strconv.ParseInt(number, 10, 64)
		links = append(links, hard(name, target))
	}
	return thing{at, folderHeader(refs, links...)}
}

// storeIn returns the store of a text, in which objects are separated by
// semicolons and the first one is the root.
func storeIn(t *testing.T, text string) impl.Pager {
	t.Helper()
	var things []thing
	for _, part := range strings.Split(text, ";") {
		things = append(things, thingIn(part))
	}
	return storeWith(t, things[0].at, things...)
}

// storeText returns the text of the objects that can be reached in a store.
func storeText(p impl.Pager) string {
	all, code := impl.ObjectsOf(p)
	if code != impl.OK {
		return impl.CodeName(code)
	}
	return thingsText(p, all...)
}

// thingsText returns the text of some objects.
func thingsText(p impl.Pager, all ...int64) string {
	var parts []string
	for _, at := range all {
		h, code := impl.ReadHeader(p, at)
		if code != impl.OK {
			parts = append(parts, fmt.Sprint(at, " ", impl.CodeName(code)))
			continue
		}
		part := fmt.Sprint(at, " ", kindWords[h.Kind], " ", h.Refs)
		links, _ := impl.LinksOf(p, at)
		for _, x := range links {
			if x.Path == "" {
				part += fmt.Sprint(" ", x.Name, "=", x.Target)
			} else {
				part += " " + x.Name + ">" + x.Path
			}
		}
		parts = append(parts, part)
	}
	return strings.Join(parts, "; ")
}

// pathOfLength returns a path of so many bytes, 2 to 78.
func pathOfLength(length int) string {
	path := ""
	for len(path) < length {
		part := min(13, length-len(path))
		// The next name needs 2 bytes, too.
		if length-len(path)-part == 1 {
			part--
		}
		path += "/" + strings.Repeat("p", part-1)
	}
	return path
}

func checkFormat(t *testing.T, what string, p impl.Pager) (impl.Pager, int64) {
	t.Helper()
	want, wantCode := formattedIn(p)
	after, code := impl.FormatGroups(p)
	checkPager(t, shown(what, "FormatGroups"), after, code, want, wantCode, p)
	return after, code
}

func checkFindPath(t *testing.T, what string, p impl.Pager, path string) (int64, int64) {
	t.Helper()
	want, wantCode := foundIn(p, path)
	at, code := impl.FindPath(p, path)
	check(t, shown(what, "FindPath", path), []int64{at, code}, []int64{want, wantCode})
	return at, code
}

func checkCreateGroup(t *testing.T, what string, p impl.Pager, parent int64, name string) (impl.Pager, int64, int64) {
	t.Helper()
	what = shown(what, "CreateGroup", parent, name)
	want, wantAt, wantCode := groupedIn(p, parent, name)
	after, at, code := impl.CreateGroup(p, parent, name)
	checkPager(t, what, after, code, want, wantCode, p)
	check(t, what, at, wantAt)
	return after, at, code
}

func checkAddLink(t *testing.T, what string, p impl.Pager, group int64, name string, target int64) (impl.Pager, int64) {
	t.Helper()
	want, wantCode := namedIn(p, group, name, target)
	after, code := impl.AddLink(p, group, name, target)
	checkPager(t, shown(what, "AddLink", group, name, target), after, code, want, wantCode, p)
	return after, code
}

func checkAddSoftLink(t *testing.T, what string, p impl.Pager, group int64, name, path string) (impl.Pager, int64) {
	t.Helper()
	want, wantCode := pointedIn(p, group, name, path)
	after, code := impl.AddSoftLink(p, group, name, path)
	checkPager(t, shown(what, "AddSoftLink", group, name, path), after, code, want, wantCode, p)
	return after, code
}

func checkRemoveLink(t *testing.T, what string, p impl.Pager, group int64, name string) (impl.Pager, int64) {
	t.Helper()
	want, wantCode := unlinkedIn(p, group, name)
	after, code := impl.RemoveLink(p, group, name)
	checkPager(t, shown(what, "RemoveLink", group, name), after, code, want, wantCode, p)
	return after, code
}

// checkLinksOf checks what is read of a number, which need not be a group.
func checkLinksOf(t *testing.T, what string, p impl.Pager, group int64) ([]impl.Link, int64) {
	t.Helper()
	f, wantCode := folderIn(p, group)
	links, code := impl.LinksOf(p, group)
	checkValues(t, shown(what, "LinksOf", group), []any{links, code}, []any{f.links, wantCode})
	checkNew(t, what, []any{p}, links)
	return links, code
}

func checkObjectsOf(t *testing.T, what string, p impl.Pager) ([]int64, int64) {
	t.Helper()
	want, wantCode := reachedIn(p)
	list, code := impl.ObjectsOf(p)
	checkValues(t, shown(what, "ObjectsOf"), []any{list, code}, []any{want, wantCode})
	checkNew(t, what, []any{p}, list)
	return list, code
}

// checkClean checks that the objects that can be reached have as many Refs as
// hard links lead to them, and that their chains, and the indexes and runs of
// datasets, are exactly the blocks that are allocated.
func checkClean(t *testing.T, what string, p impl.Pager) {
	t.Helper()
	all, code := checkObjectsOf(t, what, p)
	check(t, shown(what, "ObjectsOf"), code, int64(impl.OK))
	root, _ := impl.RootOf(p)
	counts := map[int64]int64{root: 1}
	var chains [][]int64
	for _, at := range all {
		links, _ := impl.LinksOf(p, at)
		for _, x := range links {
			if x.Path == "" {
				counts[x.Target]++
			}
		}
		blocks, _ := impl.HeaderBlocks(p, at)
		chains = append(chains, blocks, blocksOfSet(p, at))
	}
	for _, at := range all {
		h, code := impl.ReadHeader(p, at)
		check(t, shown(what, "Refs of", at), []int64{code, h.Refs}, []int64{impl.OK, counts[at]})
	}
	checkOwners(t, what, p, chains...)
}

func roomyLinks(list []impl.Link) []impl.Link {
	return append(slices.Clone(list), soft("spare", "-"), hard("-", -7))[:len(list)]
}

func wideLinks(list []impl.Link) []impl.Link {
	return slices.Clone(list[:cap(list)])
}

// drawPath returns a path, the names of which are among some.
func (m typeMaker) drawPath(names []string) string {
	path := ""
	for range m.IntN(7) {
		path += "/" + names[m.IntN(len(names))]
	}
	if path == "" {
		return "/"
	}
	return path
}

// drawLinks returns a valid list of at most so many links.
func (m typeMaker) drawLinks(most int) []impl.Link {
	var list []impl.Link
	names := m.drawNames(m.IntN(most + 1))
	slices.Sort(names)
	for _, name := range slices.Compact(names) {
		if m.IntN(3) > 0 {
			list = append(list, hard(name, []int64{1, 255, m.between(1, 255)}[m.IntN(3)]))
		} else {
			list = append(list, soft(name, m.drawPath([]string{"a", "B1", "c_"})))
		}
	}
	return list
}

// drawHeapOf returns a heap with the names of links in any slots.
func (m typeMaker) drawHeapOf(list []impl.Link) impl.NameHeap {
	h := heapOfLinks(list)
	m.Shuffle(len(h.Names), func(i, j int) { h.Names[i], h.Names[j] = h.Names[j], h.Names[i] })
	for len(h.Names) > 0 && len(h.Names) < 30 && m.IntN(4) > 0 {
		h.Names = slices.Insert(h.Names, m.IntN(len(h.Names)), "")
	}
	return h
}
