package tests

import (
	"fmt"
	"regexp"
	"slices"
	"strings"
	"testing"

	"loop.example/g00904/impl"
)

var nameForm = regexp.MustCompile(`^[A-Za-z][A-Za-z0-9_]{0,11}$`)

func heapOf(names ...string) impl.NameHeap {
	return impl.NameHeap{Names: names}
}

// heapIn returns the heap of a text: a dot for each free slot, and for each
// letter one with the letter as its name.
func heapIn(text string) impl.NameHeap {
	var h impl.NameHeap
	for _, letter := range text {
		h.Names = append(h.Names, strings.Trim(string(letter), "."))
	}
	return h
}

func textOfHeap(h impl.NameHeap) string {
	text := ""
	for _, name := range h.Names {
		if name == "" {
			name = "."
		}
		text += name
	}
	return text
}

// isHeap tells what impl.ValidHeap should tell.
func isHeap(h impl.NameHeap) bool {
	free := 0
	for _, name := range h.Names {
		free++
		if nameForm.MatchString(name) {
			free = 0
		} else if name != "" {
			return false
		}
	}
	return free == 0 && len(h.Names) <= 30
}

// sameHeaps reports whether heaps are equal, where nil and empty slices are.
func sameHeaps(a, b impl.NameHeap) bool {
	return fmt.Sprintf("%q", a) == fmt.Sprintf("%q", b)
}

// formOfHeap tells what impl.EncodeHeap should return for a valid heap.
func formOfHeap(h impl.NameHeap) string {
	form := []byte{byte(len(h.Names))}
	for _, name := range h.Names {
		form = append(form, byte(len(name)))
		form = append(form, name...)
	}
	return string(form)
}

// heapFrom tells what impl.DecodeHeap should return.
func heapFrom(s string) (impl.NameHeap, bool) {
	if s == "" {
		return impl.NameHeap{}, false
	}
	count, s := int(s[0]), s[1:]
	var h impl.NameHeap
	for range count {
		if s == "" || len(s) < 1+int(s[0]) {
			return impl.NameHeap{}, false
		}
		end := 1 + int(s[0])
		h.Names = append(h.Names, s[1:end])
		s = s[end:]
	}
	if s != "" || !isHeap(h) {
		return impl.NameHeap{}, false
	}
	return h, true
}

// nameIn tells what impl.NameAt should return.
func nameIn(h impl.NameHeap, k int64) (string, bool) {
	if !isHeap(h) {
		return "", false
	}
	for i, name := range h.Names {
		if int64(i) == k {
			return name, name != ""
		}
	}
	return "", false
}

// slotIn tells what impl.SlotOf should return.
func slotIn(h impl.NameHeap, name string) int64 {
	for k := range int64(30) {
		if found, ok := nameIn(h, k); ok && found == name {
			return k
		}
	}
	return -1
}

// putIn tells what impl.PutName should return.
func putIn(h impl.NameHeap, name string) (impl.NameHeap, int64, int64) {
	if !isHeap(h) || !nameForm.MatchString(name) {
		return impl.NameHeap{}, 0, impl.ErrInvalid
	}
	for k := range int64(30) {
		if _, ok := nameIn(h, k); ok {
			continue
		}
		names := slices.Clone(h.Names)
		if k == int64(len(names)) {
			names = append(names, "")
		}
		names[k] = name
		return heapOf(names...), k, impl.OK
	}
	return impl.NameHeap{}, 0, impl.ErrFull
}

// droppedIn tells what impl.DropName should return.
func droppedIn(h impl.NameHeap, k int64) (impl.NameHeap, int64) {
	if !isHeap(h) {
		return impl.NameHeap{}, impl.ErrInvalid
	}
	if _, ok := nameIn(h, k); !ok {
		return impl.NameHeap{}, impl.ErrNotFound
	}
	names := slices.Clone(h.Names)
	names[k] = ""
	end := len(names)
	for end > 0 && names[end-1] == "" {
		end--
	}
	return heapOf(names[:end]...), impl.OK
}

// checkNames checks a heap and a code that a function returns, and that the
// heap is valid.
func checkNames(t *testing.T, what string, got impl.NameHeap, code int64, want impl.NameHeap, wantCode int64, h impl.NameHeap) {
	t.Helper()
	if code != wantCode || !sameHeaps(got, want) || !isHeap(got) {
		t.Errorf("%s: got %q and %d, want %q and %d", what, got, code, want, wantCode)
	}
	checkNew(t, what, []any{h}, got)
}

func checkPut(t *testing.T, h impl.NameHeap, name string) (impl.NameHeap, int64, int64) {
	t.Helper()
	want, wantAt, wantCode := putIn(h, name)
	after, at, code := impl.PutName(h, name)
	what := fmt.Sprintf("PutName in %q of %q", h.Names, name)
	checkNames(t, what, after, code, want, wantCode, h)
	check(t, what, at, wantAt)
	return after, at, code
}

func checkDrop(t *testing.T, h impl.NameHeap, k int64) (impl.NameHeap, int64) {
	t.Helper()
	want, wantCode := droppedIn(h, k)
	after, code := impl.DropName(h, k)
	checkNames(t, fmt.Sprintf("DropName in %q of %d", h.Names, k), after, code, want, wantCode, h)
	return after, code
}

// checkHeap checks what is read of a heap, which need not be valid, and its form.
func checkHeap(t *testing.T, h impl.NameHeap) {
	t.Helper()
	what := fmt.Sprintf("heap %q", h.Names)
	form := ""
	if isHeap(h) {
		form = formOfHeap(h)
	}
	check(t, what, []any{impl.ValidHeap(h), impl.EncodeHeap(h)}, []any{isHeap(h), form})
	if isHeap(h) {
		checkDecodeHeap(t, form)
	}
	for k := int64(-2); k <= min(int64(len(h.Names))+1, 32); k++ {
		want, wantOk := nameIn(h, k)
		name, ok := impl.NameAt(h, k)
		check(t, shown(what, "NameAt", k), []any{name, ok}, []any{want, wantOk})
	}
	for _, name := range append([]string{"", "a", "b", "zz", "-"}, h.Names[:min(len(h.Names), 32)]...) {
		check(t, shown(what, "SlotOf", name), impl.SlotOf(h, name), slotIn(h, name))
	}
}

func checkDecodeHeap(t *testing.T, form string) bool {
	t.Helper()
	want, wantOk := heapFrom(form)
	h, ok := impl.DecodeHeap(form)
	if ok != wantOk || !sameHeaps(h, want) {
		t.Errorf("DecodeHeap of %q: got %q and %v, want %q and %v", form, h.Names, ok, want.Names, wantOk)
	}
	return ok
}

func roomyHeap(h impl.NameHeap) impl.NameHeap {
	h.Names = append(slices.Clone(h.Names), "spare", "-")[:len(h.Names)]
	return h
}

// wideHeap returns a copy of a heap with all that its slice has room for.
func wideHeap(h impl.NameHeap) impl.NameHeap {
	h.Names = slices.Clone(h.Names[:cap(h.Names)])
	return h
}

// drawHeap returns a valid heap in which names may occur twice.
func (m typeMaker) drawHeap() impl.NameHeap {
	var h impl.NameHeap
	free := m.IntN(4)
	for _, name := range m.drawNames([]int{0, 1, 2, 29, 30, m.IntN(31)}[m.IntN(6)]) {
		if m.IntN(4) < free {
			name = ""
		} else if m.IntN(5) == 0 {
			name = "a"
		}
		h.Names = append(h.Names, name)
	}
	if last := len(h.Names) - 1; last >= 0 {
		h.Names[last] = "z"
	}
	return h
}
