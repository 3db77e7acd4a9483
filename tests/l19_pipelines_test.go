package tests

import (
	"fmt"
	"slices"
	"strings"
	"testing"

	"loop.example/g00904/impl"
)

func TestP21Constants(t *testing.T) {
	check(t, "MaxFilters", impl.MaxFilters, 4)
}

// checkNotPipeline checks that a list is not valid, and that no function takes it.
func checkNotPipeline(t *testing.T, list []impl.Filter) {
	t.Helper()
	check(t, shown("is valid", list), checkPipeline(t, list), false)
	for _, data := range []string{"", "\x01a", strings.Repeat("a", 512), strings.Repeat("a", 513), strings.Repeat("a", 1101)} {
		result, mask, code := checkApplyAll(t, list, data)
		check(t, shown("ApplyPipeline", list), []any{result, mask, code}, []any{"", int64(0), int64(impl.ErrInvalid)})
		back, code := checkUndoAll(t, list, 0, data)
		check(t, shown("UndoPipeline", list), []any{back, code}, []any{"", int64(impl.ErrInvalid)})
	}
}

func TestP21PipelinesThatAreValid(t *testing.T) {
	check(t, "nil", checkPipeline(t, nil), true)
	check(t, "empty", checkPipeline(t, []impl.Filter{}), true)
	for _, a := range goodFilters() {
		for count := range 5 {
			check(t, shown(count, a), checkPipeline(t, slices.Repeat([]impl.Filter{a}, count)), true)
		}
		for _, b := range goodFilters() {
			check(t, shown(a, b), checkPipeline(t, []impl.Filter{a, b}), true)
			check(t, shown(b, a), checkPipeline(t, []impl.Filter{filter(5, 0), b, optional(4), a}), true)
		}
		checkNotPipeline(t, slices.Repeat([]impl.Filter{a}, 5))
	}
	for _, count := range []int{5, 6, 8, 63, 64, 65, 255, 256, 257, 260, 1000} {
		checkNotPipeline(t, slices.Repeat(filtersIn("run?"), count))
		checkNotPipeline(t, slices.Repeat(filtersIn("sum"), count))
	}
}

// A filter that is not valid, at each place of a list.
func TestP21FiltersThatAreNotValid(t *testing.T) {
	base := filtersIn("shuffle4 run? lz sum")
	for _, bad := range badFilters() {
		for count := 1; count <= 4; count++ {
			for place := range count {
				list := slices.Clone(base[:count])
				list[place] = bad
				checkNotPipeline(t, list)
			}
		}
		checkNotPipeline(t, append(slices.Clone(base), bad))
	}
}

func TestP21SamePipelines(t *testing.T) {
	for _, base := range [][]impl.Filter{filtersIn("run?"), filtersIn("shuffle4 run? sum"), filtersIn("none none"), filtersIn("lz lz lz lz lz"), {filter(-1, 99), {Kind: 7, Param: -3, Optional: true}}} {
		check(t, "same", []bool{impl.SamePipeline(base, roomyFilters(base)), impl.SamePipeline(roomyFilters(base), base)}, []bool{true, true})
		others := [][]impl.Filter{nil, base[:len(base)-1], base[1:], append(slices.Clone(base), base[0]), append(slices.Clone(base), impl.Filter{})}
		for i := range base {
			for _, change := range []func(f *impl.Filter){func(f *impl.Filter) { f.Kind++ }, func(f *impl.Filter) { f.Param-- }, func(f *impl.Filter) { f.Optional = !f.Optional }} {
				other := slices.Clone(base)
				change(&other[i])
				others = append(others, other)
			}
		}
		for i, other := range others {
			if !slices.Equal(base, other) {
				check(t, shown("other", i, base, other), []bool{impl.SamePipeline(base, other), impl.SamePipeline(other, base), impl.SamePipeline(other, other)}, []bool{false, false, true})
			}
		}
	}
	check(t, "nil and empty", []bool{impl.SamePipeline(nil, []impl.Filter{}), impl.SamePipeline(nil, nil), impl.SamePipeline(nil, []impl.Filter{{}})}, []bool{true, true, false})
	check(t, "another order", impl.SamePipeline(filtersIn("run lz"), filtersIn("lz run")), false)
}

// Pipelines with both forms, written out.
func TestP21WrittenForms(t *testing.T) {
	for _, c := range []struct{ words, form, text string }{
		{"", "\x00", "none"}, {"shuffle4 run? sum", "\x03\x01\x04\x00\x03\x00\x01\x05\x00\x00", "shuffle(4)+run?+sum"}, {"shuffle1", "\x01\x01\x01\x00", "shuffle(1)"}, {"shuffle24", "\x01\x01\x18\x00", "shuffle(24)"}, {"shuffle10 delta1", "\x02\x01\x0a\x00\x02\x01\x00", "shuffle(10)+delta(1)"},
		{"delta2 delta4", "\x02\x02\x02\x00\x02\x04\x00", "delta(2)+delta(4)"}, {"run lz", "\x02\x03\x00\x00\x04\x00\x00", "run+lz"}, {"run? lz?", "\x02\x03\x00\x01\x04\x00\x01", "run?+lz?"}, {"sum sum sum sum", "\x04\x05\x00\x00\x05\x00\x00\x05\x00\x00\x05\x00\x00", "sum+sum+sum+sum"},
		{"lz? shuffle8 lz? lz?", "\x04\x04\x00\x01\x01\x08\x00\x04\x00\x01\x04\x00\x01", "lz?+shuffle(8)+lz?+lz?"},
	} {
		list := filtersIn(c.words)
		check(t, c.words, []string{impl.EncodePipeline(list), impl.PipelineText(list)}, []string{c.form, c.text})
		decoded, isForm := impl.DecodePipeline(c.form)
		read, isText := impl.ReadPipeline(c.text)
		check(t, c.words, []bool{isForm, slices.Equal(decoded, list), isText, slices.Equal(read, list)}, []bool{true, true, true, true})
	}
}

func TestP21FormsThatAreNotValid(t *testing.T) {
	for _, form := range []string{
		"", "\x01", "\x01\x03", "\x01\x03\x00", "\x02\x03\x00\x00", "\x02\x03\x00\x00\x03", "\x02\x03\x00\x00\x03\x00", "\x04\x03\x00\x00\x03\x00\x00\x03\x00\x00", "\x00\x00", "\x00\x03\x00\x00", "\x01\x03\x00\x00\x00", "\x01\x03\x00\x00\x03\x00\x00", "\x01\x03\x00\x00\x01",
		"\x01\x03\x00\x02", "\x01\x03\x00\x03", "\x01\x03\x00\xff", "\x01\x04\x00\x80", "\x01\x05\x00\x01", "\x01\x01\x04\x01", "\x01\x02\x04\x01", "\x01\x05\x00\x02", "\x02\x03\x00\x01\x04\x00\x02", "\x02\x03\x00\x02\x04\x00\x01",
		"\x01\x00\x00\x00", "\x01\x06\x00\x00", "\x01\xff\x00\x00", "\x01\x01\x00\x00", "\x01\x01\x19\x00", "\x01\x01\xff\x00", "\x01\x02\x00\x00", "\x01\x02\x03\x00", "\x01\x02\x05\x00", "\x01\x02\x08\x00", "\x01\x03\x01\x00", "\x01\x04\x01\x00", "\x01\x05\x01\x00",
		"\x05" + strings.Repeat("\x03\x00\x00", 5), "\x05" + strings.Repeat("\x03\x00\x00", 4), "\x04" + strings.Repeat("\x03\x00\x00", 5), "\xff" + strings.Repeat("\x03\x00\x00", 255), "\x00" + strings.Repeat("\x03\x00\x00", 256), "\x04" + strings.Repeat("\x03\x00\x00", 260), strings.Repeat("\x03", 100000), strings.Repeat("\x00", 100000), strings.Repeat("\xff", 100000), "none", "run",
	} {
		check(t, shown("is a form", []byte(form[:min(20, len(form))])), checkDecodePipeline(t, form), false)
	}
}

// Every byte of a form with every value, every part of it, and a byte more.
func TestP21DamagedForms(t *testing.T) {
	m := newTypeMaker(143)
	counts := map[bool]int{}
	for i := range 60 {
		list := m.drawPipeline()
		if i < 10 {
			list = filtersIn([]string{"", "run", "run?", "shuffle24", "delta4 sum", "lz lz? lz", "run? lz? run? lz?", "sum sum sum sum", "shuffle1 delta1 run lz", "shuffle4 run? sum"}[i])
		}
		form := impl.EncodePipeline(list)
		for i := range len(form) {
			counts[checkDecodePipeline(t, form[:i])]++
			counts[checkDecodePipeline(t, form[i+1:])]++
			for c := range 256 {
				counts[checkDecodePipeline(t, form[:i]+string([]byte{byte(c)})+form[i+1:])]++
			}
		}
		for c := range 256 {
			counts[checkDecodePipeline(t, form+string([]byte{byte(c)}))]++
		}
	}
	for length := range 8 {
		everyString(length, "\x00\x01\x02\x03", func(s string) { counts[checkDecodePipeline(t, s)]++ })
	}
	if counts[true] < 500 || counts[false] < 10000 {
		t.Errorf("too few: %v", counts)
	}
}

func TestP21TextsThatAreNotValid(t *testing.T) {
	for _, text := range []string{
		"", " ", "none ", " none", "None", "NONE", "none?", "none+", "+none", "none+none", "none+lz", "lz+none", "none()", "n", "non", "nonee",
		" run", "run ", "run +lz", "run+ lz", "run + lz", "run\n", "run\x00", "shuffle (4)", "shuffle( 4)", "shuffle(4 )", "run ?", "\tlz",
		"shuffle(+4)", "shuffle(-4)", "delta(+1)", "delta(-1)", "shuffle(04)", "shuffle(004)", "delta(01)", "shuffle(4.0)", "shuffle(0x4)", "shuffle(4_)", "shuffle(1_0)", "shuffle(4)4", "shuffle(99999999999999999999)", "shuffle(18446744073709551620)",
		"shuffle(0)", "shuffle(25)", "shuffle(30)", "delta(0)", "delta(3)", "delta(5)", "delta(8)", "shuffle()", "delta()", "shuffle", "delta", "shuffle(", "shuffle)", "shuffle4", "shuffle(4", "shuffle4)", "shuffle((4)", "shuffle(4))", "shuffle((4))", "shuffle)4(", "shuffle[4]", "shuffle(4)(4)", "shuffle(4,4)",
		"shuffle(4)?", "shuffle?(4)", "shuffle(4?)", "shuffle(?4)", "delta(1)?", "sum?", "?", "??", "?run", "r?un", "run??", "lz??", "lz?+run??", "run?run", "run?+?", "none?+run",
		"run()", "lz(0)", "lz(1)", "sum()", "sum(0)", "run(0)?", "run?(0)", "lz?()", "run(", "run)", "run!", "run?!",
		"+", "++", "+lz", "lz+", "lz++run", "run+lz+", "+run+lz", "runlz", "run lz", "run,lz", "run&lz", "run?lz?", "shuffle(4)run", "run-lz", "run?+", "+run?",
		"RUN", "Run", "runN", "Lz", "LZ", "lZ", "Sum", "SUM", "Shuffle(4)", "SHUFFLE(4)", "Delta(1)", "DELTA(1)", "shuffle(A)",
		"r", "ru", "runn", "l", "lzz", "su", "summ", "z", "deflate", "shuffl(4)", "shufflee(4)", "delt(1)", "4", "(4)", "()", "lz4", "run1", "\xff", "ru\xff", "é", "rün", "run\u2028", "run\uff1f",
		"run+run+run+run+run", "sum+sum+sum+sum+sum", "none+none+none+none+none", strings.Repeat("lz+", 4), strings.Repeat("run?+", 100000) + "run?", strings.Repeat("+", 100000), strings.Repeat("?", 100000), strings.Repeat("(", 100000), "shuffle(" + strings.Repeat("0", 100000) + "4)",
	} {
		check(t, shown("is a text", text[:min(30, len(text))]), checkReadPipeline(t, text), false)
	}
}

// Texts in which a character is left out, added or replaced.
func TestP21ChangedTexts(t *testing.T) {
	m := newTypeMaker(144)
	counts := map[bool]int{}
	for i := range 80 {
		text := impl.PipelineText(m.drawPipeline())
		if i < 6 {
			text = []string{"none", "shuffle(12)", "delta(2)", "run?+lz?", "sum", "run+lz+sum+run?"}[i]
		}
		for i := range len(text) + 1 {
			counts[checkReadPipeline(t, text[:i])]++
			counts[checkReadPipeline(t, text[i:])]++
			for _, c := range " +-?()0123459Rrunlzsmedahf,\x00\xff" {
				counts[checkReadPipeline(t, text[:i]+string(c)+text[i:])]++
				if i < len(text) {
					counts[checkReadPipeline(t, text[:i]+string(c)+text[i+1:])]++
				}
			}
			if i < len(text) {
				counts[checkReadPipeline(t, text[:i]+text[i+1:])]++
				counts[checkReadPipeline(t, text[:i]+strings.ToUpper(text[i:i+1])+text[i+1:])]++
			}
		}
	}
	if counts[true] < 1000 || counts[false] < 10000 {
		t.Errorf("too few: %v", counts)
	}
}

// Pipelines that are applied, written out, with the words of the filters that are skipped.
func TestP21WrittenResults(t *testing.T) {
	aaaa, abcd := strings.Repeat("a", 12), "abcdefghijkl"
	runs := "\x0ca"
	for _, c := range []struct {
		words, data, want string
		mask              int64
	}{
		{"", "", "", 0}, {"", abcd, abcd, 0}, {"run?", "abc", "abc", 1}, {"run", "abc", "\x01a\x01b\x01c", 0},
		// Shorter, as long, and longer, where there is only this filter.
		{"run?", "aaa", "\x03a", 0}, {"run?", "aa", "aa", 1}, {"run?", "aabb", "aabb", 1}, {"run?", "a", "a", 1}, {"run?", "", "", 1}, {"lz?", "", "", 1}, {"run", "", "", 0}, {"lz?", "a", "a", 1}, {"lz?", "aaaa", "aaaa", 1}, {"lz?", "aaaaa", "aaaaa", 1}, {"lz?", "aaaaaa", "\x00a\x82\x01\x00", 0}, {"run", "aa", "\x02a", 0},
		// At the beginning, in the middle and at the end.
		{"run? delta1", aaaa, "\x0c\x55", 0}, {"run? delta1", "bbaa", "b\x00\xff\x00", 1}, {"run? delta1", "abc", "a\x01\x01", 1}, {"delta1 run? shuffle2", "\x07\x08\x09\x0a\x0b", "\x01\x04\x07\x01", 0}, {"delta1 run? shuffle2", "\x01\x01\x02\x02", "\x01\x01\x00\x00", 2}, {"delta1 run? shuffle2", "aabb", "a\x01\x00\x00", 2}, {"delta1 run? shuffle2", "abbb", "a\x00\x01\x00", 2},
		{"shuffle6 run?", "abcdefabcdef", "aabbccddeeff", 2}, {"shuffle4 run?", "abbbabbbabbb", "\x03a\x09b", 0}, {"shuffle4 run?", abcd, "aeibfjcgkdhl", 2}, {"delta1 lz?", "\x01\x02\x03\x04\x05\x06\x07", "\x00\x01\x83\x01\x00", 0}, {"delta1 lz?", "\x01\x02\x03\x04\x05", "\x01\x01\x01\x01\x01", 2},
		// Several of them.
		{"run? lz?", aaaa, runs, 2}, {"lz? run?", aaaa, "\x00a\x88\x01\x00", 2}, {"run? run?", aaaa, runs, 2}, {"run? lz?", abcd, abcd, 3}, {"run? lz? run?", "abcabcabc", "\x02abc\x83\x03\x00", 5}, {"run? lz? run? lz?", abcd, abcd, 15}, {"run? run lz? sum", aaaa, "\x01\x0c\x01a" + sumOfBytes("\x01\x0c\x01a"), 4}, {"run run? lz?", "aabb", "\x02a\x02b", 6},
		{"run run?", "\x01\x01\x01", "\x03\x01", 2}, {"run run?", "\x01\x02\x01\x02", "\x01\x01\x01\x02\x01\x01\x01\x02", 2}, {"run run?", "\x01", "\x01\x01", 2}, {"lz? sum", "aaaaaa", "\x00a\x82\x01\x00" + sumOfBytes("\x00a\x82\x01\x00"), 0}, {"sum run?", "", "\x04\x00", 0}, {"sum sum", "", "\x00\x00\x00\x00\x1c\xdf\x44\x21", 0},
		{"shuffle4 run? sum", "\x01\x00\x00\x00\x02\x00\x00\x00", "\x01\x01\x01\x02\x06\x00" + sumOfBytes("\x01\x01\x01\x02\x06\x00"), 0},
	} {
		result, mask, code := checkApplyAll(t, filtersIn(c.words), c.data)
		check(t, shown(c.words, []byte(c.data)), []any{[]byte(result), mask, code}, []any{[]byte(c.want), c.mask, int64(impl.OK)})
		back, code := checkUndoAll(t, filtersIn(c.words), c.mask, c.want)
		check(t, shown(c.words, []byte(c.want)), []any{back, code}, []any{c.data, int64(impl.OK)})
	}
}

func TestP21DataAtItsLimit(t *testing.T) {
	for _, words := range []string{"", "run", "run?", "lz", "lz?", "sum", "shuffle4", "delta2", "shuffle4 delta4 run? sum", "run run run run", "lz lz lz lz", "sum sum sum sum"} {
		list := filtersIn(words)
		for _, length := range []int{0, 1, 511, 512, 513, 514, 1100, 1101, 100000} {
			want := int64(impl.OK)
			if length > 512 {
				want = impl.ErrInvalid
			}
			_, _, code := checkApplyAll(t, list, strings.Repeat("a", length))
			check(t, shown("ApplyPipeline", words, length), code, want)
		}
		for _, mask := range masksOf(list) {
			for _, length := range []int{0, 4, 511, 512, 513, 514, 1099, 1100, 1101, 100000} {
				_, code := checkUndoAll(t, list, mask, strings.Repeat("a", length))
				check(t, shown("UndoPipeline", words, length), code == impl.ErrInvalid, length > 1100)
			}
		}
	}
}

// Results of MaxStored bytes and of more, of the first filter, of the last one, and
// of one in the middle behind which the data would become short again.
func TestP21ResultsAtTheirLimit(t *testing.T) {
	ab := strings.Repeat("ab", 256)
	for _, c := range []struct {
		words string
		data  string
		mask  int64
		code  int64
	}{
		{"run", ab, 0, impl.OK}, {"run run", ab[:275], 0, impl.OK}, {"run run", ab[:276], 0, impl.ErrFull}, {"run run", ab, 0, impl.ErrFull}, {"run run lz", ab[:275], 0, impl.OK}, {"run run lz", ab[:276], 0, impl.ErrFull}, {"run run lz run", ab, 0, impl.ErrFull}, {"run shuffle2 run", ab, 0, impl.OK},
		{"run run?", ab, 2, impl.OK}, {"run run? lz", ab, 2, impl.OK}, {"run run? run", ab, 0, impl.ErrFull}, {"run? run run", ab, 0, impl.ErrFull}, {"run? run run?", ab, 5, impl.OK}, {"run lz? run", ab, 0, impl.OK}, {"lz run run", ab, 0, impl.OK},
		{"run sum", ab, 0, impl.OK}, {"run sum sum sum", ab, 0, impl.OK}, {"run run sum", ab[:274], 0, impl.OK}, {"run run sum", ab[:275], 0, impl.ErrFull}, {"lz run sum", allBytes(512), 0, impl.OK}, {"lz lz lz lz", allBytes(512), 0, impl.OK}, {"run lz lz sum", allBytes(512), 0, impl.ErrFull}, {"run lz? lz? sum", allBytes(512), 6, impl.OK}, {"run run lz", allBytes(512), 0, impl.ErrFull},
	} {
		_, mask, code := checkApplyAll(t, filtersIn(c.words), c.data)
		check(t, shown(c.words, len(c.data)), []int64{mask, code}, []int64{c.mask, c.code})
	}
}

// Data that is restored with MaxChunkBytes bytes and with one more.
func TestP21RestoredDataAtItsLimit(t *testing.T) {
	long, longer, most := "\xffa\xffa\x02a", "\xffa\xffa\x03a", "\xffa\xffa\xffa\xffa\x50a"
	tokens := strings.Repeat("\x7f"+distinct(0, 128), 4)
	pairs := "\x01\x01a" + strings.Repeat("\xff\x02\x00", 7) // 912 bytes, of runs of one a
	for _, c := range []struct {
		words, data string
		mask        int64
		code        int64
	}{
		{"run", long, 0, impl.OK}, {"run", longer, 0, impl.ErrCorrupt}, {"run", most, 0, impl.ErrCorrupt}, {"run?", long, 0, impl.OK}, {"run?", longer, 0, impl.ErrCorrupt}, {"run?", longer, 1, impl.OK}, {"lz", tokens, 0, impl.OK}, {"lz", tokens + "\x00a", 0, impl.ErrCorrupt}, {"lz", tokens[:387] + "\x7e" + distinct(0, 127), 0, impl.OK},
		{"", allBytes(512), 0, impl.OK}, {"", allBytes(513), 0, impl.ErrCorrupt}, {"", allBytes(1100), 0, impl.ErrCorrupt}, {"run?", allBytes(512), 1, impl.OK}, {"run?", allBytes(513), 1, impl.ErrCorrupt}, {"shuffle4", allBytes(512), 0, impl.OK}, {"shuffle4", allBytes(513), 0, impl.ErrCorrupt}, {"delta1", allBytes(513), 0, impl.ErrCorrupt},
		{"sum", allBytes(512) + sumOfBytes(allBytes(512)), 0, impl.OK}, {"sum", allBytes(513) + sumOfBytes(allBytes(513)), 0, impl.ErrCorrupt}, {"run sum", longer + sumOfBytes(longer), 0, impl.ErrCorrupt}, {"run sum", long + sumOfBytes(long), 0, impl.OK},
		// Only the result counts, not what is between.
		{"run run", strings.Repeat("\x02a", 256), 0, impl.ErrCorrupt}, {"run run", strings.Repeat("\x01\x01", 512), 0, impl.OK}, {"run run", strings.Repeat("\x01\x01", 514), 0, impl.OK}, {"run lz", strings.Repeat("\x01\x01\x61", 300), 0, impl.OK}, {"run lz", pairs + "\xed\x02\x00", 0, impl.OK}, {"run lz", pairs + "\xef\x02\x00", 0, impl.ErrCorrupt},
	} {
		_, code := checkUndoAll(t, filtersIn(c.words), c.mask, c.data)
		check(t, shown(c.words, c.mask, len(c.data)), code, c.code)
	}
}

// All masks of lists, and numbers that are none.
func TestP21Masks(t *testing.T) {
	masks := append(numbersFrom(-17, 33), oddNumbers()...)
	slices.Sort(masks)
	masks = slices.Compact(masks)
	for _, words := range []string{"", "run?", "run", "run? run", "run run?", "lz? lz?", "shuffle4 run? sum", "run? lz? run? lz?", "run lz run lz", "run? delta1 lz? sum", "sum run? run? run", "shuffle1 delta1 sum lz?", "sum?", "run? run? run? run? run?", "none run?"} {
		list := filtersIn(words)
		stored, _, _ := impl.ApplyPipeline(list, "aaaabbbbaaaabbbb")
		valid := 0
		for _, mask := range masks {
			ok := impl.ValidMask(list, mask)
			check(t, shown("ValidMask", words, mask), ok, isMask(list, mask))
			_, code := checkUndoAll(t, list, mask, stored)
			check(t, shown("UndoPipeline", words, mask), code != impl.ErrInvalid, ok)
			if ok {
				valid++
			}
		}
		wantValid := 0
		if isPipeline(list) {
			wantValid = 1 << strings.Count(words, "?")
		}
		check(t, shown("how many masks", words), valid, wantValid)
	}
}

// A mask tells which filters are reversed, whichever of them were skipped.
func TestP21OtherMasks(t *testing.T) {
	for _, c := range []struct {
		mask int64
		data string
		want string
		code int64
	}{
		{0, "\x02\x02\x01a", "", impl.ErrCorrupt}, {0, "\x01\x03\x01a", "aaa", impl.OK}, {1, "\x01\x03\x01a", "\x03a", impl.OK}, {2, "\x03a", "aaa", impl.OK}, {3, "\x03a", "\x03a", impl.OK}, {3, "\x01\x03\x01a", "\x01\x03\x01a", impl.OK}, {2, "\x01\x03\x01a", "\x03a", impl.OK}, {2, "abc", "", impl.ErrCorrupt}, {3, "abc", "abc", impl.OK},
	} {
		data, code := checkUndoAll(t, filtersIn("run? run?"), c.mask, c.data)
		check(t, shown("mask", c.mask, []byte(c.data)), []any{data, code}, []any{c.want, c.code})
	}
}

// The last filter fails first.
func TestP21OrderOfErrors(t *testing.T) {
	wrongSum, short, malformed := "\x02a"+"....", "abc", "\x00a"
	for _, c := range []struct {
		words string
		mask  int64
		data  string
		code  int64
	}{
		{"run sum", 0, wrongSum, impl.ErrChecksum}, {"run sum", 0, short, impl.ErrCorrupt}, {"run sum", 0, malformed + sumOfBytes(malformed), impl.ErrCorrupt}, {"run sum", 0, malformed + "....", impl.ErrChecksum}, {"sum run", 0, malformed, impl.ErrCorrupt}, {"sum run", 0, "\x04a", impl.ErrChecksum}, {"sum run", 0, "\x03a", impl.ErrCorrupt}, {"sum run", 0, "\x04\x00", impl.OK},
		{"sum sum", 0, "........" + sumOfBytes("........"), impl.ErrChecksum}, {"sum sum", 0, "..." + sumOfBytes("..."), impl.ErrCorrupt}, {"sum run?", 1, wrongSum, impl.ErrInvalid}, {"sum run?", 2, wrongSum, impl.ErrChecksum}, {"sum run?", 2, short, impl.ErrCorrupt},
		{"run sum", 1, wrongSum, impl.ErrInvalid}, {"run sum", 4, short, impl.ErrInvalid}, {"run sum", 0, strings.Repeat(".", 1101), impl.ErrInvalid}, {"run sum", 0, strings.Repeat(".", 1100), impl.ErrChecksum}, {"run sum?", 0, wrongSum, impl.ErrInvalid}, {"run? sum", 1, wrongSum, impl.ErrChecksum}, {"", 1, "", impl.ErrInvalid}, {"", 0, strings.Repeat(".", 1101), impl.ErrInvalid}, {"", 0, strings.Repeat(".", 513), impl.ErrCorrupt},
		{"sum", 0, allBytes(700), impl.ErrChecksum}, {"shuffle2 lz", 0, strings.Repeat("\x00a", 520) + "\x00", impl.ErrCorrupt}, {"sum shuffle2", 0, strings.Repeat("a", 1000), impl.ErrChecksum},
	} {
		_, code := checkUndoAll(t, filtersIn(c.words), c.mask, c.data)
		check(t, shown(c.words, c.mask, []byte(c.data[:min(12, len(c.data))])), code, c.code)
	}
	// ErrInvalid is before ErrFull, also if an earlier filter is the one that is full.
	ab := strings.Repeat("ab", 257)
	for words, want := range map[string]int64{"run run": impl.ErrFull, "run run sum?": impl.ErrInvalid, "run run delta3": impl.ErrInvalid, "run run run run run": impl.ErrInvalid} {
		_, _, code := checkApplyAll(t, filtersIn(words), ab[:512])
		check(t, words, code, want)
		_, _, code = checkApplyAll(t, filtersIn(words), ab[:513])
		check(t, words, code, int64(impl.ErrInvalid))
	}
}

// Drawn pipelines with drawn data, and with stored data that is damaged.
func TestP21DrawnPipelines(t *testing.T) {
	m := newTypeMaker(145)
	counts := map[string]int{}
	for range 4000 {
		list := m.drawPipeline()
		if m.IntN(30) == 0 {
			list = append(list, badFilters()[m.IntN(len(badFilters()))])
		}
		checkPipeline(t, list)
		stored, mask, code := checkApplyAll(t, list, m.drawBytes(m.drawLength(513)))
		counts[shown("apply", code)]++
		counts[shown("mask", mask)]++
		masks := append(masksOf(list), m.between(-2, 17))
		_, code = checkUndoAll(t, list, masks[m.IntN(len(masks))], stored)
		counts[shown("undo", code)]++
		_, code = checkUndoAll(t, list, mask, m.drawBytes(m.drawLength(1102)))
		counts[shown("other", code)]++
		if stored != "" {
			i := m.IntN(len(stored))
			_, code = checkUndoAll(t, list, mask, stored[:i]+string([]byte{byte(m.IntN(256))})+stored[i+1:])
			counts[shown("damaged", code)]++
		}
	}
	for _, name := range []string{"apply 0", "apply 1", "apply 5", "mask 0", "mask 1", "mask 2", "mask 3", "mask 4", "mask 8", "undo 0", "undo 1", "undo 10", "other 0", "other 1", "other 9", "other 10", "damaged 0", "damaged 9", "damaged 10"} {
		if counts["["+name+"]"] < 10 {
			t.Errorf("too few of %s: %v", name, counts)
		}
	}
}

// Every byte of what a pipeline with a checksum at its end stores gets other values.
func TestP21ChecksumsOfChangedBytes(t *testing.T) {
	m := newTypeMaker(146)
	for i := range 60 {
		list := append(m.drawPipeline(), filter(5, 0))
		if len(list) > 4 {
			list = list[1:]
		}
		stored, mask, code := checkApplyAll(t, list, m.drawBytes([]int{0, 1, 4, 30, 100, 512}[i%6]))
		if code != impl.OK {
			check(t, "code", code, int64(impl.ErrFull))
			continue
		}
		for at := range len(stored) {
			for change := 1; change < 256; change += 1 + len(stored)/8 {
				changed := stored[:at] + string([]byte{stored[at] ^ byte(change)}) + stored[at+1:]
				if data, code := impl.UndoPipeline(list, mask, changed); data != "" || code != impl.ErrChecksum {
					t.Errorf("%+v: byte %d of %d changed: got %q and %d", list, at, len(stored), data, code)
				}
			}
		}
	}
}

// pipelineResults returns what all functions of the chapter return.
func pipelineResults(list, other []impl.Filter, mask int64, data string) []any {
	decoded, isForm := impl.DecodePipeline(data)
	read, isText := impl.ReadPipeline(data)
	applied, skipped, code := impl.ApplyPipeline(list, data)
	undone, undoneCode := impl.UndoPipeline(list, mask, data)
	return []any{impl.ValidPipeline(list), impl.SamePipeline(list, other), impl.EncodePipeline(list), decoded, isForm, impl.PipelineText(list), read, isText, applied, skipped, code, undone, undoneCode, impl.ValidMask(list, mask)}
}

func TestP1PipelinesReturnForAllArguments(t *testing.T) {
	m := newTypeMaker(147)
	numbers, texts := oddNumbers(), oddStrings()
	for i, n := range numbers {
		for j := range 30 {
			list, other := m.drawPipeline(), m.drawPipeline()
			if j%3 == 0 {
				list = append(list, impl.Filter{Kind: m.between(-1, 6), Param: n, Optional: j%2 == 0})
			} else if j%7 == 0 {
				other = append(list, impl.Filter{Kind: n, Param: numbers[(i+j)%len(numbers)]})
			}
			data := strings.Repeat(texts[(i*30+j)%len(texts)], m.IntN(600))
			first := fmt.Sprintf("%q", pipelineResults(list, other, n, data))
			second := fmt.Sprintf("%q", pipelineResults(roomyFilters(list), roomyFilters(other), n, strings.Clone(data)))
			checkShown(t, "second call", second, first)
		}
	}
	many := slices.Repeat(goodFilters(), 20000)
	check(t, "many filters", pipelineResults(many, many[1:], 1, ""), []any{false, false, "", []impl.Filter(nil), false, "", []impl.Filter(nil), false, "", int64(0), int64(impl.ErrInvalid), "", int64(impl.ErrInvalid), false})
}

func TestP1PipelinesAreNotModified(t *testing.T) {
	m := newTypeMaker(148)
	for range 1000 {
		list, other := roomyFilters(m.drawPipeline()), roomyFilters(m.drawPipeline())
		data := []string{m.drawBytes(m.IntN(600)), impl.EncodePipeline(other), impl.PipelineText(other)}[m.IntN(3)]
		before := shown(wideFilters(list), wideFilters(other))
		results := pipelineResults(list, other, 0, data)
		checkNew(t, "results", []any{list, other}, results...)
		first := shown(results...)
		second := shown(pipelineResults(list, other, 0, data)...)
		checkShown(t, "the arguments after the calls", shown(wideFilters(list), wideFilters(other)), before)
		checkShown(t, "second call", second, first)
	}
}
