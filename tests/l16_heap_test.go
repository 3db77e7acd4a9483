package tests

import (
	"fmt"
	"math"
	"slices"
	"strings"
	"testing"

	"loop.example/g00904/impl"
)

func TestP17Constants(t *testing.T) {
	check(t, "MaxHeap", impl.MaxHeap, 30)
}

// manyNames returns so many different names.
func manyNames(count int) []string {
	var list []string
	for i := range count {
		list = append(list, fmt.Sprintf("n%d", i))
	}
	return list
}

// withName returns a copy of a list with another name.
func withName(list []string, k int, name string) []string {
	list = slices.Clone(list)
	list[k] = name
	return list
}

// goodHeaps are valid heaps, with as few and as many slots as there may be.
func goodHeaps() []impl.NameHeap {
	list := []impl.NameHeap{
		{}, {Names: []string{}}, heapOf("a"), heapOf("", "a"), heapOf("a", "", "b"), heapOf("", "", "", "z9_"), heapOf("a", "a"), heapOf("a", "", "a"), heapOf("a", "A"), heapOf("", "b", "", "", "b", "c"),
		heapOf("abcdefghijkl"), heapOf("A23456789012", "", "z__________Z"), heapOf(slices.Repeat([]string{"a"}, 30)...), heapOf(slices.Repeat([]string{"abcdefghijkl"}, 30)...), heapOf(withName(make([]string, 30), 29, "a")...),
	}
	for _, count := range []int{1, 2, 29, 30} {
		names := manyNames(count)
		list = append(list, heapOf(names...))
		for k := range count - 1 {
			list = append(list, heapOf(withName(names, k, "")...))
		}
	}
	return list
}

// badHeaps are heaps that are invalid because of one or more slots.
func badHeaps() []impl.NameHeap {
	list := []impl.NameHeap{
		heapOf(""), heapOf("", ""), heapOf("a", ""), heapOf("a", "b", ""), heapOf("", "a", ""), heapOf("a", "", ""), heapOf(make([]string, 30)...), heapOf(make([]string, 31)...), heapOf(append(manyNames(29), "")...),
		heapOf(manyNames(31)...), heapOf(manyNames(32)...), heapOf(manyNames(255)...), heapOf(manyNames(256)...), heapOf(manyNames(257)...), heapOf(manyNames(5000)...), heapOf(append(manyNames(30), "")...), heapOf(withName(make([]string, 31), 30, "a")...), heapOf(withName(manyNames(31), 7, "")...),
	}
	for _, name := range []string{" ", "1", "_", "_a", "1a", "a-", "a b", "a.", "a/", "/a", "é", "aé", "\x00", "a\x00", "\xff", "A23456789012b", strings.Repeat("a", 255), strings.Repeat("a", 256), strings.Repeat("a", 100000)} {
		for k := range 3 {
			list = append(list, heapOf(withName([]string{"x", "y", "z"}, k, name)...))
		}
		list = append(list, heapOf(name), heapOf("", name), heapOf(withName(manyNames(30), 29, name)...), heapOf(withName(manyNames(30), 0, name)...))
	}
	return list
}

func TestP17HeapsThatAreValid(t *testing.T) {
	for _, h := range goodHeaps() {
		check(t, shown("ValidHeap", h), []bool{impl.ValidHeap(h), isHeap(h)}, []bool{true, true})
		checkHeap(t, h)
		for _, name := range []string{"a", "new", "abcdefghijkl", "", "-", "abcdefghijklm"} {
			checkPut(t, h, name)
		}
		for k := int64(-2); k <= 32; k++ {
			checkDrop(t, h, k)
		}
	}
}

func TestP17HeapsThatAreNotValid(t *testing.T) {
	for _, h := range badHeaps() {
		check(t, shown("ValidHeap", h), []bool{impl.ValidHeap(h), isHeap(h)}, []bool{false, false})
		checkHeap(t, h)
		codes := []int64{}
		for _, name := range []string{"a", "", "-"} {
			_, _, code := checkPut(t, h, name)
			codes = append(codes, code)
		}
		for _, k := range []int64{0, 1, -1, 29, 30, 300} {
			_, code := checkDrop(t, h, k)
			codes = append(codes, code)
		}
		check(t, shown("codes", h), codes, slices.Repeat([]int64{impl.ErrInvalid}, 9))
	}
}

// step of the texts below: a name that is put, or a slot that is dropped.
type heapStep struct {
	name string
	slot int64
	code int64
	want string
}

// Names that are stored and dropped, written out.
func TestP17WrittenHeaps(t *testing.T) {
	h := impl.NameHeap{}
	for _, s := range []heapStep{
		{"a", 0, impl.OK, "a"}, {"b", 1, impl.OK, "ab"}, {"c", 2, impl.OK, "abc"}, {"", 0, impl.OK, ".bc"}, {"d", 0, impl.OK, "dbc"}, {"", 2, impl.OK, "db"}, {"", 2, impl.ErrNotFound, ""}, {"", -1, impl.ErrNotFound, ""},
		{"a", 2, impl.OK, "dba"}, {"e", 3, impl.OK, "dbae"}, {"f", 4, impl.OK, "dbaef"}, {"", 1, impl.OK, "d.aef"}, {"", 3, impl.OK, "d.a.f"}, {"", 2, impl.OK, "d...f"}, {"", 2, impl.ErrNotFound, ""}, {"g", 1, impl.OK, "dg..f"}, {"g", 2, impl.OK, "dgg.f"},
		{"", 4, impl.OK, "dgg"}, {"", 1, impl.OK, "d.g"}, {"", 2, impl.OK, "d"}, {"h", 1, impl.OK, "dh"}, {"", 0, impl.OK, ".h"}, {"", 0, impl.ErrNotFound, ""}, {"", 1, impl.OK, ""}, {"", 0, impl.ErrNotFound, ""}, {"i", 0, impl.OK, "i"},
	} {
		var after impl.NameHeap
		var code, at int64
		if s.name != "" {
			after, at, code = checkPut(t, h, s.name)
			check(t, shown("slot of", s), at, s.slot)
		} else {
			after, code = checkDrop(t, h, s.slot)
		}
		check(t, shown("step", s), []any{code, textOfHeap(after)}, []any{s.code, s.want})
		if code == impl.OK {
			h = after
		}
	}
}

// A heap is filled, emptied from its end and from its beginning, and filled again.
func TestP17FullHeaps(t *testing.T) {
	h := impl.NameHeap{}
	for i, name := range manyNames(30) {
		var at, code int64
		h, at, code = checkPut(t, h, name)
		check(t, shown("PutName", i), []int64{at, code}, []int64{int64(i), impl.OK})
	}
	_, _, code := checkPut(t, h, "more")
	check(t, "PutName in a full heap", code, int64(impl.ErrFull))
	_, _, code = checkPut(t, h, "-")
	check(t, "PutName of no name in a full heap", code, int64(impl.ErrInvalid))
	for k := range int64(30) {
		after, _ := checkDrop(t, h, k)
		again, at, code := checkPut(t, after, "again")
		check(t, shown("the free slot", k), []any{at, code, len(again.Names)}, []any{k, int64(impl.OK), 30})
		_, _, code = checkPut(t, again, "more")
		check(t, "PutName in a full heap", code, int64(impl.ErrFull))
	}
	fromEnd, fromBeginning := h, h
	for i := range int64(30) {
		fromEnd, code = checkDrop(t, fromEnd, 29-i)
		check(t, "from the end", []any{code, len(fromEnd.Names)}, []any{int64(impl.OK), int(29 - i)})
		fromBeginning, code = checkDrop(t, fromBeginning, i)
		check(t, "from the beginning", []any{code, len(fromBeginning.Names)}, []any{int64(impl.OK), []int{30, 0}[i/29]})
	}
}

// everyHeap calls a function with all heaps of so many slots, each of which is
// free or has one of two names; they need not be valid.
func everyHeap(count int, try func(h impl.NameHeap)) {
	everyString(count, ".ab", func(s string) { try(heapIn(s)) })
}

func TestP17SmallHeaps(t *testing.T) {
	for count := range 7 {
		everyHeap(count, func(h impl.NameHeap) {
			checkHeap(t, h)
			for _, name := range []string{"a", "c", "", "-"} {
				after, at, code := checkPut(t, h, name)
				if code == impl.OK {
					stored, ok := impl.NameAt(after, at)
					check(t, "the name that was stored", []any{stored, ok}, []any{name, true})
				}
			}
			for k := int64(-1); k <= int64(count)+1; k++ {
				checkDrop(t, h, k)
			}
		})
	}
}

// Drawn names that are stored and dropped: what is in the slots is kept in a map.
func TestP17Histories(t *testing.T) {
	m := newTypeMaker(121)
	counts := map[string]int{}
	for range 60 {
		h, model := impl.NameHeap{}, map[int64]string{}
		puts := 2 + m.IntN(5)
		for range 120 {
			if m.IntN(7) < puts {
				name := m.drawNames(1)[0]
				after, at, code := impl.PutName(h, name)
				counts[shown("put", code)]++
				if code == impl.OK {
					check(t, "a slot that was in use", model[at], "")
					h, model[at] = after, name
				} else {
					check(t, "slots that are in use", len(model), 30)
				}
			} else {
				k := m.between(-1, 30)
				after, code := impl.DropName(h, k)
				counts[shown("drop", code)]++
				check(t, "a slot that is in use", code == impl.OK, model[k] != "")
				if code == impl.OK {
					h = after
					delete(model, k)
				}
			}
			for k := int64(-1); k <= 31; k++ {
				name, ok := impl.NameAt(h, k)
				check(t, shown("NameAt", k), []any{name, ok}, []any{model[k], model[k] != ""})
				if ok {
					first := impl.SlotOf(h, name)
					check(t, "the first slot with a name", []any{model[first], first <= k}, []any{name, true})
				}
			}
			back, ok := impl.DecodeHeap(impl.EncodeHeap(h))
			check(t, "restored", []bool{impl.ValidHeap(h), ok, impl.SameHeap(back, h)}, []bool{true, true, true})
		}
	}
	for _, name := range []string{"put 0", "put 5", "drop 0", "drop 3"} {
		if counts["["+name+"]"] < 100 {
			t.Errorf("too few of %s: %v", name, counts)
		}
	}
}

func TestP17SameHeaps(t *testing.T) {
	for _, base := range []impl.NameHeap{heapOf("a", "", "b"), heapOf("", "-", ""), heapOf(manyNames(40)...)} {
		check(t, "same", impl.SameHeap(base, roomyHeap(base)), true)
		for i, other := range []impl.NameHeap{{}, heapOf(base.Names[:2]...), heapOf(append(slices.Clone(base.Names), "")...), heapOf(withName(base.Names, 0, "c")...), heapOf(withName(base.Names, len(base.Names)-1, "c")...), heapOf(base.Names[1:]...)} {
			check(t, "other", []any{i, impl.SameHeap(base, other), impl.SameHeap(other, base), impl.SameHeap(other, other)}, []any{i, false, false, true})
		}
	}
	check(t, "nil and empty", []bool{impl.SameHeap(impl.NameHeap{}, impl.NameHeap{Names: []string{}}), impl.SameHeap(impl.NameHeap{}, heapOf(""))}, []bool{true, false})
}

func TestP17WrittenForms(t *testing.T) {
	for form, h := range map[string]impl.NameHeap{
		"\x00": {}, "\x01\x01a": heapOf("a"), "\x02\x00\x01a": heapOf("", "a"), "\x03\x02ab\x00\x0cabcdefghijkl": heapOf("ab", "", "abcdefghijkl"), "\x02\x01a\x01a": heapOf("a", "a"),
		"\x1e" + strings.Repeat("\x00", 29) + "\x01z": heapOf(withName(make([]string, 30), 29, "z")...), "\x1e" + strings.Repeat("\x02aB", 30): heapOf(slices.Repeat([]string{"aB"}, 30)...),
	} {
		check(t, shown("EncodeHeap", h), impl.EncodeHeap(h), form)
		got, ok := impl.DecodeHeap(form)
		check(t, shown("DecodeHeap", h), []bool{ok, sameHeaps(got, h)}, []bool{true, true})
		checkNew(t, "DecodeHeap", []any{h}, got)
	}
}

func TestP17FormsThatAreNotValid(t *testing.T) {
	for _, form := range []string{
		"", "\x01", "\x01\x01", "\x01\x02a", "\x02\x01a", "\x02\x01a\x01", "\x03\x01a\x01b", "\x02\x00\x01", "\x00\x00", "\x00a", "\x01\x01aa", "\x01\x01a\x00", "\x01\x01a\x01b", "\x02\x01a\x01bc",
		"\x01\x00", "\x02\x00\x00", "\x02\x01a\x00", "\x03\x00\x01a\x00", "\x01\x01-", "\x01\x011", "\x02\x02a-\x01a", "\x01\x0dabcdefghijklm", "\x01\xffa", "\x01\x00a", "a", "\x01a",
		"\x1f" + strings.Repeat("\x01a", 31), "\x1f" + strings.Repeat("\x00", 30) + "\x01a", "\x20" + strings.Repeat("\x01a", 32), "\xff" + strings.Repeat("\x01a", 255), "\x00" + strings.Repeat("\x01a", 256), "\x1e" + strings.Repeat("\x01a", 29), "\x1d" + strings.Repeat("\x01a", 30), "\x1e" + strings.Repeat("\x01a", 29) + "\x00",
		strings.Repeat("\x00", 100000), strings.Repeat("\x01", 100000), strings.Repeat("\xff", 100000), strings.Repeat("a", 100000),
	} {
		check(t, shown("is a form", []byte(form[:min(9, len(form))])), checkDecodeHeap(t, form), false)
	}
}

// Every byte of a form with another value, every part, and a byte more.
func TestP17DamagedForms(t *testing.T) {
	counts := map[bool]int{}
	for _, h := range append(goodHeaps()[:12], heapOf(manyNames(30)...), heapOf(withName(manyNames(30), 12, "")...)) {
		form := formOfHeap(h)
		for i := range len(form) {
			counts[checkDecodeHeap(t, form[:i])]++
			counts[checkDecodeHeap(t, form[i+1:])]++
			for c := range 256 {
				counts[checkDecodeHeap(t, form[:i]+string([]byte{byte(c)})+form[i+1:])]++
			}
		}
		for c := range 256 {
			counts[checkDecodeHeap(t, form+string([]byte{byte(c)}))]++
		}
	}
	if counts[true] < 1000 || counts[false] < 1000 {
		t.Errorf("too few: %v", counts)
	}
	// All short forms of a few bytes.
	for length := range 7 {
		everyString(length, "\x00\x01\x02a-", func(form string) { checkDecodeHeap(t, form) })
	}
}

func TestP17DrawnHeaps(t *testing.T) {
	m := newTypeMaker(122)
	for range 2000 {
		h := m.drawHeap()
		check(t, "ValidHeap", impl.ValidHeap(h), true)
		checkHeap(t, h)
		checkPut(t, h, m.drawNames(1)[0])
		checkDrop(t, h, m.between(-1, 30))
	}
}

// heapResults returns what all functions of the chapter return.
func heapResults(h, other impl.NameHeap, name string, k int64, form string) []any {
	put, at, putCode := impl.PutName(h, name)
	found, ok := impl.NameAt(h, k)
	dropped, dropCode := impl.DropName(h, k)
	decoded, isForm := impl.DecodeHeap(form)
	return []any{impl.ValidHeap(h), impl.SameHeap(h, other), put, at, putCode, found, ok, dropped, dropCode, impl.SlotOf(h, name), impl.EncodeHeap(h), decoded, isForm}
}

func TestP1HeapsReturnForAllArguments(t *testing.T) {
	texts := oddStrings()
	heaps := append(badHeaps(), goodHeaps()...)
	for i, k := range append(oddNumbers(), math.MinInt32, math.MaxInt32) {
		for j, h := range heaps {
			if (i+j)%7 > 0 && i > 10 {
				continue
			}
			name, form := texts[(i+j*3)%len(texts)], strings.Repeat(texts[i*13%len(texts)], (i+j)*37%200)
			wild := heapOf(append(slices.Clone(h.Names), name)...)
			check(t, "second call", heapResults(roomyHeap(h), wild, name, k, form), heapResults(h, wild, name, k, form))
			check(t, "second call", heapResults(wild, h, name, k, form), heapResults(roomyHeap(wild), h, name, k, form))
		}
	}
}

func TestP1HeapsAreNotModified(t *testing.T) {
	m := newTypeMaker(123)
	for range 1500 {
		h, other := roomyHeap(m.drawHeap()), roomyHeap(m.drawHeap())
		k, name := m.between(-1, int64(len(h.Names))), append(slices.Clone(h.Names), "a", "new", "")[m.IntN(len(h.Names)+3)]
		form := formOfHeap(m.drawHeap())
		before := fmt.Sprintf("%q", []any{wideHeap(h), wideHeap(other)})
		results := heapResults(h, other, name, k, form)
		checkNew(t, "results", []any{h, other}, results...)
		first := shown(results...)
		second := shown(heapResults(h, other, name, k, form)...)
		checkShown(t, "the arguments after the calls", fmt.Sprintf("%q", []any{wideHeap(h), wideHeap(other)}), before)
		checkShown(t, "second call", second, first)
	}
}
