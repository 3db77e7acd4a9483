package tests

import (
	"fmt"
	"math"
	"strings"
	"testing"

	"loop.example/g00904/impl"
)

func TestP20Constants(t *testing.T) {
	check(t, "limits", []int{impl.MaxChunkBytes, impl.MaxStored}, []int{512, 1100})
	check(t, "kinds", []int{impl.FiShuffle, impl.FiDelta, impl.FiRun, impl.FiLz, impl.FiSum}, []int{1, 2, 3, 4, 5})
}

// checkValidFilter checks whether a filter is valid, and that an invalid one
// neither applies nor reverses anything.
func checkValidFilter(t *testing.T, f impl.Filter) bool {
	t.Helper()
	ok := impl.ValidFilter(f)
	check(t, shown("ValidFilter", f), ok, isFilter(f))
	for _, data := range []string{"", "a", "aaab", "\x00\x00\x00\x00", strings.Repeat("a", 1100), strings.Repeat("a", 1101)} {
		checkApply(t, f, data)
		checkUndo(t, f, data)
	}
	return ok
}

// Every kind with every Param, Optional or not.
func TestP20FiltersThatAreValid(t *testing.T) {
	valid := map[string]int{}
	for kind := int64(-1); kind <= 8; kind++ {
		for param := int64(-2); param <= 27; param++ {
			for _, f := range []impl.Filter{filter(kind, param), {Kind: kind, Param: param, Optional: true}} {
				if checkValidFilter(t, f) {
					valid[shown(f.Kind, f.Optional)]++
				}
			}
		}
	}
	check(t, "how many are valid", valid, map[string]int{"[1 false]": 24, "[2 false]": 3, "[3 false]": 1, "[3 true]": 1, "[4 false]": 1, "[4 true]": 1, "[5 false]": 1})
	for _, f := range goodFilters() {
		check(t, shown("good", f), checkValidFilter(t, f), true)
	}
	for _, f := range badFilters() {
		check(t, shown("bad", f), checkValidFilter(t, f), false)
	}
	for _, n := range oddNumbers() {
		for kind := int64(1); kind <= 5; kind++ {
			checkValidFilter(t, filter(kind, n))
			checkValidFilter(t, filter(n, kind-1))
			checkValidFilter(t, impl.Filter{Kind: kind, Param: n, Optional: true})
		}
	}
}

func TestP20WrittenShuffles(t *testing.T) {
	for _, c := range []struct {
		data string
		size int64
		want string
	}{
		{"a1b2c3d", 2, "abc123d"}, {"a1b2c3", 2, "abc123"}, {"abcdef", 3, "adbecf"}, {"abcdefg", 3, "adbecfg"}, {"abcdefgh", 3, "adbecfgh"}, {"abcdefghi", 3, "adgbehcfi"},
		{"abcd", 1, "abcd"}, {"ab", 3, "ab"}, {"abc", 3, "abc"}, {"abc", 24, "abc"}, {"abcdefghijklmnopqrstuvwx", 24, "abcdefghijklmnopqrstuvwx"}, {"abcdefghijklmnopqrstuvwxyz", 24, "abcdefghijklmnopqrstuvwxyz"},
		{"abcdefghijklmnopqrstuvwxyz", 13, "anbocpdqerfsgthuivjwkxlymz"}, {"abcdefghijklmnopqrstuvwxyz", 12, "ambncodpeqfrgshtiujvkwlxyz"}, {"", 1, ""}, {"", 24, ""}, {"a", 1, "a"}, {"a", 2, "a"}, {"\x00\xff\x00\xfe", 2, "\x00\x00\xff\xfe"},
	} {
		check(t, shown("Shuffle", c.data, c.size), impl.Shuffle(c.data, c.size), c.want)
		check(t, shown("Unshuffle", c.want, c.size), impl.Unshuffle(c.want, c.size), c.data)
	}
	for _, size := range append(oddNumbers(), 25, 26, 48, 256+2, 1<<32+2) {
		if !isBetween(1, size, 24) {
			check(t, shown("size", size), []string{impl.Shuffle("abcd", size), impl.Unshuffle("abcd", size)}, []string{"", ""})
		}
	}
}

func checkShuffle(t *testing.T, data string, size int64) {
	t.Helper()
	what := shown(len(data), "bytes, size", size)
	mixed := impl.Shuffle(data, size)
	checkBytes(t, "Shuffle "+what, mixed, 0, shuffledOf(data, size), 0)
	checkBytes(t, "Unshuffle "+what, impl.Unshuffle(data, size), 0, unshuffledOf(data, size), 0)
	if isBetween(1, size, 24) && len(data) <= 1100 {
		checkBytes(t, "restored "+what, impl.Unshuffle(mixed, size), 0, data, 0)
		checkBytes(t, "restored "+what, impl.Shuffle(impl.Unshuffle(data, size), size), 0, data, 0)
	}
}

// Every size with data of every length up to three elements, and at the limit.
func TestP20Shuffles(t *testing.T) {
	m := newTypeMaker(136)
	for size := int64(-1); size <= 26; size++ {
		for length := range 80 {
			checkShuffle(t, allBytes(length), size)
			checkShuffle(t, m.drawBytes(length), size)
		}
		for length := 1090; length <= 1104; length++ {
			checkShuffle(t, allBytes(length), size)
		}
		checkShuffle(t, strings.Repeat("a", 100000), size)
	}
}

func TestP20WrittenDifferences(t *testing.T) {
	for _, c := range []struct {
		data  string
		width int64
		want  string
	}{
		{"\x05\x07\x04", 1, "\x05\x02\xfd"}, {"\x00\xff\x00\x80", 1, "\x00\xff\x01\x80"}, {"", 1, ""}, {"\x80", 1, "\x80"},
		{"\xff\x00\x01\x01\x09", 2, "\xff\x00\x02\x00\x09"}, {"\x00\x00\xff\xff\x00\x00", 2, "\x00\x00\xff\xff\x01\x00"}, {"\x01\x02\x00\x01", 2, "\x01\x02\xff\xfe"}, {"a", 2, "a"}, {"ab", 2, "ab"}, {"abc", 2, "abc"}, {"", 2, ""},
		{"\x02\x00\x00\x00\x01\x00\x00\x00", 4, "\x02\x00\x00\x00\xff\xff\xff\xff"}, {"\xff\xff\xff\xff\x00\x00\x00\x00\x00\x00\x00\x80xyz", 4, "\xff\xff\xff\xff\x01\x00\x00\x00\x00\x00\x00\x80xyz"}, {"\x00\x01\x00\x00\xff\x00\x00\x01", 4, "\x00\x01\x00\x00\xff\xff\xff\x00"}, {"abc", 4, "abc"}, {"abcd", 4, "abcd"}, {"abcde", 4, "abcde"}, {"", 4, ""},
	} {
		check(t, shown("Delta", []byte(c.data), c.width), impl.Delta(c.data, c.width), c.want)
		check(t, shown("Undelta", []byte(c.want), c.width), impl.Undelta(c.want, c.width), c.data)
	}
	for _, width := range append(oddNumbers(), 3, 5, 6, 16, 256+1, 1<<32+4) {
		if width != 1 && width != 2 && width != 4 {
			check(t, shown("width", width), []string{impl.Delta("abcdefgh", width), impl.Undelta("abcdefgh", width)}, []string{"", ""})
		}
	}
}

func checkDelta(t *testing.T, data string, width int64) {
	t.Helper()
	what := shown([]byte(data), "width", width)
	differences := impl.Delta(data, width)
	checkBytes(t, "Delta "+what, differences, 0, deltaOf(data, width, false), 0)
	checkBytes(t, "Undelta "+what, impl.Undelta(data, width), 0, deltaOf(data, width, true), 0)
	if (width == 1 || width == 2 || width == 4) && len(data) <= 1100 {
		checkBytes(t, "restored "+what, impl.Undelta(differences, width), 0, data, 0)
		checkBytes(t, "restored "+what, impl.Delta(impl.Undelta(data, width), width), 0, data, 0)
	}
}

func TestP20Differences(t *testing.T) {
	m := newTypeMaker(137)
	for width := int64(-1); width <= 9; width++ {
		for length := range 40 {
			for range 5 {
				checkDelta(t, m.drawBytes(length), width)
			}
			checkDelta(t, strings.Repeat("\xff\x00\x80", length)[:length], width)
		}
		for length := 1094; length <= 1104; length++ {
			checkDelta(t, m.drawBytes(length), width)
		}
		checkDelta(t, strings.Repeat("\xff", 1100), width)
		checkDelta(t, strings.Repeat("a", 100000), width)
	}
	// Every byte behind every byte.
	for pair := range 65536 {
		data := string([]byte{byte(pair / 256), byte(pair)})
		if got, want := impl.Delta(data, 1), string([]byte{data[0], data[1] - data[0]}); got != want {
			t.Errorf("Delta %q: got %q, want %q", data, got, want)
		}
	}
}

// Runs that are written out, as both functions have them.
func TestP20WrittenRuns(t *testing.T) {
	for data, want := range map[string]string{
		"": "", "a": "\x01a", "aa": "\x02a", "ab": "\x01a\x01b", "aaab": "\x03a\x01b", "aba": "\x01a\x01b\x01a", "\x00\x00\x01\x01\x01": "\x02\x00\x03\x01", "\xff\xff\xfe": "\x02\xff\x01\xfe",
		strings.Repeat("a", 254): "\xfea", strings.Repeat("a", 255): "\xffa", strings.Repeat("a", 256): "\xffa\x01a", strings.Repeat("a", 257): "\xffa\x02a", strings.Repeat("a", 509): "\xffa\xfea", strings.Repeat("a", 510): "\xffa\xffa", strings.Repeat("a", 511): "\xffa\xffa\x01a",
		"b" + strings.Repeat("a", 255) + "b": "\x01b\xffa\x01b", strings.Repeat("a", 256) + "b": "\xffa\x01a\x01b", strings.Repeat("a", 255) + strings.Repeat("b", 255): "\xffa\xffb", strings.Repeat("\x00", 1100): "\xff\x00\xff\x00\xff\x00\xff\x00\x50\x00",
	} {
		runs, _ := checkCompressors(t, data)
		check(t, shown("RunEncode", data), runs, want)
		back, ok := checkRunDecode(t, want)
		check(t, shown("RunDecode", []byte(want)), []any{back, ok}, []any{data, true})
	}
	// Pairs whose runs are not as long as possible.
	for pairs, want := range map[string]string{"\x01a\x01a": "aa", "\x02a\x01a\x01b": "aaab", "\x01a\xffa": strings.Repeat("a", 256), "\xfea\x01a": strings.Repeat("a", 255), strings.Repeat("\x01\x00", 7): strings.Repeat("\x00", 7)} {
		back, ok := checkRunDecode(t, pairs)
		check(t, shown("RunDecode", []byte(pairs)), []any{back, ok}, []any{want, true})
	}
}

func TestP20RunsThatAreNone(t *testing.T) {
	for _, pairs := range []string{"\x01", "\x00", "a", "\x01a\x01", "\x03a\x01b\x00", "\x00a", "\x00\x00", "\x01a\x00b", "\x00a\x01b", "\x01a\x00b\x01c", "\x01a\x01b\x00c", strings.Repeat("\xffa", 5), strings.Repeat("\x00", 1000), strings.Repeat("\x01", 100001), strings.Repeat("\xff", 100000)} {
		got, ok := checkRunDecode(t, pairs)
		check(t, shown("RunDecode", []byte(pairs[:min(9, len(pairs))])), []any{got, ok}, []any{"", false})
	}
	// Results of MaxStored bytes and of one more, of long and of short pairs.
	long, short := strings.Repeat("\xffa", 4), strings.Repeat("\x01a", 1099)
	for pairs, want := range map[string]bool{
		long + "\x4fb": true, long + "\x50b": true, long + "\x51b": false, long + "\x50b\x01c": false, "\x51b" + long: false, "\x50b" + long: true, short: true, short + "\x01b": true, short + "\x02b": false, short + "\x01b\x01b": false, "\x02b" + short: false, short + "\xffb": false, short + "\x01b\x00b": false, short + "\x01b\x01": false,
	} {
		got, ok := checkRunDecode(t, pairs)
		check(t, shown(len(pairs), []byte(pairs[len(pairs)-4:])), []any{ok, len(got) >= 1099}, []any{want, want})
	}
}

// All short data, and all short forms that may be wrong.
func TestP20ShortData(t *testing.T) {
	for length := range 11 {
		everyString(length, "ab", func(s string) { checkCompressors(t, s) })
	}
	for length := range 8 {
		everyString(length, "abc", func(s string) { checkCompressors(t, s) })
	}
	counts := map[bool]int{}
	for length := range 7 {
		everyString(length, "\x00\x01\x02\xffa", func(s string) {
			_, ok := checkRunDecode(t, s)
			counts[ok]++
		})
	}
	if counts[true] < 5000 || counts[false] < 5000 {
		t.Errorf("too few runs: %v", counts)
	}
	counts = map[bool]int{}
	for length := range 7 {
		everyString(length, "\x00\x01\x02\x80\x83\xff", func(s string) {
			_, ok := checkLzDecode(t, s)
			counts[ok]++
		})
	}
	if counts[true] < 1000 || counts[false] < 30000 {
		t.Errorf("too few sequences of tokens: %v", counts)
	}
}

// distinct returns so many bytes, from a first one on, that are all different.
func distinct(first, count int) string {
	b := make([]byte, count)
	for i := range b {
		b[i] = byte(first + i)
	}
	return string(b)
}

func TestP20WrittenTokens(t *testing.T) {
	far := distinct(1, 127) + distinct(128, 128) // 255 bytes
	for _, c := range []struct{ data, want string }{
		{"", ""}, {"a", "\x00a"}, {"abababab", "\x01ab\x83\x02\x00"}, {"abcabd", "\x05abcabd"}, {"abcabc", "\x02abc\x80\x03\x00"}, {"abcabcx", "\x02abc\x80\x03\x00\x00x"}, {"xabcabcx", "\x03xabc\x80\x03\x00\x00x"},
		// Matches of 2 bytes and of 3 that overlap themselves.
		{"aaa", "\x02aaa"}, {"aaaa", "\x00a\x80\x01\x00"}, {"aaaaa", "\x00a\x81\x01\x00"}, {"abab", "\x03abab"}, {"ababa", "\x01ab\x80\x02\x00"}, {"abcabcabc", "\x02abc\x83\x03\x00"}, {"abcaabca", "\x03abca\x81\x04\x00"},
		// The longest match, and longer ones.
		{strings.Repeat("a", 130), "\x00a\xfe\x01\x00"}, {strings.Repeat("a", 131), "\x00a\xff\x01\x00"}, {strings.Repeat("a", 132), "\x00a\xff\x01\x00\x00a"}, {strings.Repeat("a", 133), "\x00a\xff\x01\x00\x01aa"}, {strings.Repeat("a", 134), "\x00a\xff\x01\x00\x80\x01\x00"}, {strings.Repeat("a", 261), "\x00a\xff\x01\x00\xff\x01\x00"}, {strings.Repeat("a", 512), "\x00a\xff\x01\x00\xff\x01\x00\xff\x01\x00\xf6\x01\x00"},
		// The same match at several distances: the least one.
		{"abcxabcyabc", "\x03abcx\x80\x04\x00\x00y\x80\x04\x00"}, {"abcdxabcyabcz", "\x04abcdx\x80\x05\x00\x00y\x80\x04\x00\x00z"},
		// A longer match at a greater distance.
		{"abcdxabcyabcdz", "\x04abcdx\x80\x05\x00\x00y\x81\x09\x00\x00z"}, {"abcdxabceyabcd", "\x04abcdx\x80\x05\x00\x01ey\x81\x0a\x00"}, {"abcdeabcdfabcde", "\x04abcde\x81\x05\x00\x00f\x82\x0a\x00"},
		// The longest match at three distances, of which two are equally long.
		{"abcd1abcd2abc3abcd", "\x04abcd1\x81\x05\x00\x002\x80\x05\x00\x003\x81\x09\x00"},
		// A match that begins in the middle of another one.
		{"abcdefabcdefcdefg", "\x05abcdef\x83\x06\x00\x81\x04\x00\x00g"}, {"abcdeabcdebcde", "\x04abcde\x82\x05\x00\x81\x04\x00"},
		// Literals that fill tokens.
		{distinct(0, 127), "\x7e" + distinct(0, 127)}, {distinct(0, 128), "\x7f" + distinct(0, 128)}, {distinct(0, 129), "\x7f" + distinct(0, 128) + "\x00\x80"}, {distinct(0, 256), "\x7f" + distinct(0, 128) + "\x7f" + distinct(128, 128)},
		{distinct(0, 127) + "\x00\x01\x02", "\x7e" + distinct(0, 127) + "\x80\x7f\x00"}, {distinct(0, 128) + "\x00\x01\x02", "\x7f" + distinct(0, 128) + "\x80\x80\x00"}, {distinct(0, 129) + "\x00\x01\x02", "\x7f" + distinct(0, 128) + "\x00\x80\x80\x81\x00"},
		{"aaaa" + distinct(128, 128), "\x00a\x80\x01\x00\x7f" + distinct(128, 128)}, {"aaaa" + distinct(127, 129), "\x00a\x80\x01\x00\x7f" + distinct(127, 128) + "\x00\xff"},
		// Distances of two bytes.
		{far + "\x01\x02\x03", "\x7f" + far[:128] + "\x7e" + far[128:] + "\x80\xff\x00"}, {far + "\x00\x01\x02\x03", "\x7f" + far[:128] + "\x7f" + far[128:] + "\x00\x80\x00\x01"}, {far + "\x00\x00\x01\x02\x03", "\x7f" + far[:128] + "\x7f" + far[128:] + "\x00\x00\x00\x80\x01\x01"},
	} {
		_, tokens := checkCompressors(t, c.data)
		check(t, shown("LzEncode", []byte(c.data)), []byte(tokens), []byte(c.want))
		back, ok := checkLzDecode(t, c.want)
		check(t, shown("LzDecode", []byte(c.want)), []any{back, ok}, []any{c.data, true})
	}
}

// Matches of every length at several distances, between literals.
func TestP20MatchesOfAllLengths(t *testing.T) {
	for _, gap := range []int{0, 1, 100, 127, 128, 300} {
		for n := range 300 {
			part := allBytes(1200)[600 : 600+n]
			data := part + allBytes(gap) + part + "."
			checkCompressors(t, data)
			checkCompressors(t, data+part)
		}
	}
	// The greatest distance there is.
	data := allBytes(1097)
	_, tokens := checkCompressors(t, data+data[:3])
	check(t, "at the greatest distance", []any{len(tokens), tokens[len(tokens)-3:]}, []any{1097 + 9 + 3, "\x80\x49\x04"})
}

// Sequences of tokens that LzEncode does not make.
func TestP20OtherTokens(t *testing.T) {
	for tokens, want := range map[string]string{
		"\x00a\x00a": "aa", "\x00a\x00a\x00a\x00a": "aaaa", "\x02abc\x80\x03\x00\x80\x03\x00": "abcabcabc", "\x02abc\x80\x01\x00": "abcccc", "\x02abc\x80\x02\x00": "abcbcb", "\x00a\x00b\x80\x02\x00": "ababa", "\x00a\xff\x01\x00\x00b": strings.Repeat("a", 131) + "b",
	} {
		back, ok := checkLzDecode(t, tokens)
		check(t, shown("LzDecode", []byte(tokens)), []any{back, ok}, []any{want, true})
	}
	for _, tokens := range []string{
		// Cut short.
		"\x00", "\x01a", "\x02ab", "\x7f", "\x7f" + distinct(0, 127), "\x00a\x00", "\x00a\x80", "\x00a\x80\x01", "\x00a\xff\x01", "\x00a\x01b", "a",
		// No distance, or one that is too great.
		"\x80\x01\x00", "\x80\x00\x00", "\xff\x01\x00", "\x01ab\x80\x00\x00", "\x01ab\x80\x03\x00", "\x01ab\x80\x02\x01", "\x01ab\x80\xff\xff", "\x01ab\x80\x00\x01", "\x01ab\xff\x03\x00", "\x00a\x80\x01\x00\x80\x05\x00", "\x00a\x80\x01\x00\x80\x00\x00", "\x01ab\x80\x03\x00\x00a",
		strings.Repeat("\x00", 100001), strings.Repeat("\xff", 100000), strings.Repeat("\x80", 100000),
	} {
		got, ok := checkLzDecode(t, tokens)
		check(t, shown("LzDecode", []byte(tokens[:min(9, len(tokens))])), []any{got, ok}, []any{"", false})
	}
	// A distance of the length of the output before its token, one less and one more.
	for n := 1; n < 1000; n += 7 {
		literals := ""
		for _, part := range partsOf(allBytes(n), 128) {
			literals += string([]byte{byte(len(part) - 1)}) + part
		}
		for d, want := range map[int]bool{n - 1: n > 1, n: true, n + 1: false} {
			got, ok := checkLzDecode(t, literals+string([]byte{130, byte(d), byte(d / 256)}))
			check(t, shown("distance", d, "in", n), []any{ok, len(got) == n+5}, []any{want, want})
		}
	}
}

// partsOf cuts a string into parts of so many bytes and one for the rest.
func partsOf(s string, size int) []string {
	var list []string
	for len(s) > size {
		list, s = append(list, s[:size]), s[size:]
	}
	return append(list, s)
}

// An output of MaxStored bytes and of one more, with each kind of token as the last one.
func TestP20TokensAtTheirLimit(t *testing.T) {
	literals := strings.Repeat("\x7f"+distinct(0, 128), 8) // 1024 bytes
	matches := "\x00a" + strings.Repeat("\xff\x01\x00", 8) // 1041 bytes
	for tokens, want := range map[string]bool{
		literals + "\x4b" + distinct(0, 76): true, literals + "\x4c" + distinct(0, 77): false, literals + "\xc9\x01\x00": true, literals + "\xca\x01\x00": false, literals + "\x4b" + distinct(0, 76) + "\x00a": false, literals + "\xc9\x01\x00\x00a": false, literals + "\xc9\x01\x00\x80\x01\x00": false,
		matches + "\x3a" + distinct(0, 59): true, matches + "\x3b" + distinct(0, 60): false, matches + "\xb8\x01\x00": true, matches + "\xb9\x01\x00": false, matches + "\xff\x01\x00": false, literals + "\x7f" + distinct(0, 128): false, literals + "\x48" + distinct(0, 73) + "\x80\x01\x00": true, literals + "\x49" + distinct(0, 74) + "\x80\x01\x00": false,
		strings.Repeat("\x00a", 1100): true, strings.Repeat("\x00a", 1101): false, strings.Repeat("\x00a", 1097) + "\x80\x49\x04": true, strings.Repeat("\x00a", 1097) + "\x81\x49\x04": false, strings.Repeat("\x00a", 1098) + "\x80\x49\x04": false, strings.Repeat("\x00a", 1100) + "\x00": false, strings.Repeat("\x00a", 1100) + "\x80\x01": false,
	} {
		got, ok := checkLzDecode(t, tokens)
		check(t, shown("end", len(tokens), []byte(tokens[len(tokens)-3:])), []any{ok, len(got) == 1100}, []any{want, want})
	}
}

// Every byte of compressed data with every other value, and every part of it.
func TestP20DamagedForms(t *testing.T) {
	m := newTypeMaker(138)
	counts := map[string]int{}
	for range 12 {
		data := m.drawBytes(40 + m.IntN(60))
		runs, tokens := checkCompressors(t, data)
		for i := range len(runs) {
			checkRunDecode(t, runs[:i])
			checkRunDecode(t, runs[i:])
			_, ok := checkRunDecode(t, runs[:i]+string([]byte{runs[i] + byte(1+m.IntN(255))})+runs[i+1:])
			counts[shown("runs", ok)]++
		}
		for i := range len(tokens) {
			checkLzDecode(t, tokens[:i])
			checkLzDecode(t, tokens[i:])
			for c := range 256 {
				_, ok := checkLzDecode(t, tokens[:i]+string([]byte{byte(c)})+tokens[i+1:])
				counts[shown("tokens", ok)]++
			}
		}
	}
	for _, name := range []string{"runs true", "tokens true", "tokens false"} {
		if counts["["+name+"]"] < 300 {
			t.Errorf("too few of %s: %v", name, counts)
		}
	}
}

// The greatest results of the compressors for their data.
func TestP20BoundsAreReached(t *testing.T) {
	for _, n := range []int{0, 1, 2, 127, 128, 129, 256, 257, 1090, 1091, 1092, 1099, 1100} {
		runs, tokens := checkCompressors(t, allBytes(n))
		check(t, shown("bytes", n), []int{len(runs), len(tokens)}, []int{2 * n, n + (n+127)/128})
	}
	data := "abc"
	for i := range 253 {
		if i < 97 || i > 99 {
			data += string([]byte{byte(i)}) + "abc"
		}
	}
	_, tokens := checkCompressors(t, data)
	check(t, "one literal for each match", []int{len(data), len(tokens)}, []int{1003, 3 + 250*5})
	check(t, "too long", []string{impl.RunEncode(strings.Repeat("a", 1101)), impl.LzEncode(strings.Repeat("a", 1101)), impl.RunEncode(strings.Repeat("a", 100000)), impl.LzEncode(strings.Repeat("a", 100000))}, []string{"", "", "", ""})
}

func TestP20DrawnData(t *testing.T) {
	m := newTypeMaker(139)
	shorter := 0
	for range 1500 {
		data := m.drawBytes(m.drawLength(1102))
		_, tokens := checkCompressors(t, data)
		if len(tokens) < len(data) {
			shorter++
		}
	}
	if shorter < 500 {
		t.Errorf("only %d become shorter", shorter)
	}
}

func TestP20WrittenChecksums(t *testing.T) {
	for data, want := range map[string]string{"123456789": "\x26\x39\xf4\xcb", "": "\x00\x00\x00\x00", "a": "\x43\xbe\xb7\xe8"} {
		sum, code := checkApply(t, filter(5, 0), data)
		checkBytes(t, "sum", sum, code, data+want, impl.OK)
		back, code := checkUndo(t, filter(5, 0), sum)
		checkBytes(t, "back", back, code, data, impl.OK)
	}
	for data, want := range map[string]int64{
		"": impl.ErrCorrupt, "a": impl.ErrCorrupt, "abc": impl.ErrCorrupt, "\x00\x00\x00": impl.ErrCorrupt, "\x00\x00\x00\x00": impl.OK, "\x00\x00\x00\x01": impl.ErrChecksum, "\x01\x00\x00\x00": impl.ErrChecksum, "abcd": impl.ErrChecksum,
		"a\xe8\xb7\xbe\x43": impl.ErrChecksum, "a\x43\xbe\xb7\xe8\x00": impl.ErrChecksum, "xa\x43\xbe\xb7\xe8": impl.ErrChecksum, "\x43\xbe\xb7\xe8": impl.ErrChecksum, "\x43\xbe\xb7\xe8a": impl.ErrChecksum, "a\x43\xbe\xb7": impl.ErrChecksum,
	} {
		_, code := checkUndo(t, filter(5, 0), data)
		check(t, shown("code of", []byte(data)), code, want)
	}
}

// Every byte of data with a checksum gets every other value.
func TestP20ChecksumsOfChangedBytes(t *testing.T) {
	m := newTypeMaker(140)
	for _, length := range []int{0, 1, 3, 4, 5, 60, 512, 1096} {
		stored, code := checkApply(t, filter(5, 0), m.drawBytes(length))
		check(t, "applied", code, int64(impl.OK))
		for i := range len(stored) {
			for change := 1; change < 256; change += 1 + length/8 {
				changed := stored[:i] + string([]byte{stored[i] ^ byte(change)}) + stored[i+1:]
				if data, code := impl.UndoFilter(filter(5, 0), changed); data != "" || code != impl.ErrChecksum {
					t.Errorf("byte %d of %d changed: got %q and %d", i, len(stored), data, code)
				}
			}
		}
	}
}

// Results of MaxStored bytes and of one more.
func TestP20ResultsAtTheirLimit(t *testing.T) {
	ab := strings.Repeat("ab", 550)
	for _, c := range []struct {
		f    impl.Filter
		data string
		code int64
	}{
		{filter(3, 0), ab[:549], impl.OK}, {filter(3, 0), ab[:550], impl.OK}, {filter(3, 0), ab[:551], impl.ErrFull}, {filter(3, 0), ab, impl.ErrFull}, {filter(3, 0), ab[:549] + "aa", impl.OK}, {optional(3), ab[:550], impl.OK}, {optional(3), ab[:551], impl.ErrFull}, {filter(3, 0), strings.Repeat("a", 1100), impl.OK},
		{filter(4, 0), allBytes(1090), impl.OK}, {filter(4, 0), allBytes(1091), impl.OK}, {filter(4, 0), allBytes(1092), impl.ErrFull}, {filter(4, 0), allBytes(1100), impl.ErrFull}, {optional(4), allBytes(1091), impl.OK}, {optional(4), allBytes(1092), impl.ErrFull}, {filter(4, 0), ab, impl.OK},
		{filter(5, 0), ab[:1095], impl.OK}, {filter(5, 0), ab[:1096], impl.OK}, {filter(5, 0), ab[:1097], impl.ErrFull}, {filter(5, 0), ab, impl.ErrFull}, {filter(1, 24), ab, impl.OK}, {filter(1, 1), ab, impl.OK}, {filter(2, 4), ab, impl.OK}, {filter(2, 1), ab, impl.OK},
	} {
		result, code := checkApply(t, c.f, c.data)
		check(t, shown(c.f, len(c.data)), code, c.code)
		if c.code == impl.ErrFull {
			check(t, "no result", result, "")
		}
	}
	// The other way, the results of the decoders are not longer than MaxStored.
	for f, lengths := range map[impl.Filter][2]int{filter(3, 0): {10, 12}, filter(4, 0): {1109, 1110}} {
		long, tooLong := impl.RunEncode(strings.Repeat("a", 1100)), impl.RunEncode(strings.Repeat("a", 1100))+"\x01a"
		if f.Kind == 4 {
			long, tooLong = impl.LzEncode(allBytes(1100)), impl.LzEncode(allBytes(1099))+"\x00a"
		}
		check(t, "lengths", [2]int{len(long), len(tooLong)}, lengths)
		_, code := checkUndo(t, f, long)
		_, other := checkUndo(t, f, tooLong)
		check(t, shown("codes", f), []int64{code, other}, map[int64][]int64{3: {impl.OK, impl.ErrCorrupt}, 4: {impl.ErrInvalid, impl.ErrInvalid}}[f.Kind])
	}
}

// Filters that are valid or not with data that is too long, malformed, has another
// checksum, or none of these.
func TestP20OrderOfErrors(t *testing.T) {
	codes := map[string]int{}
	for kind := range int64(7) {
		for _, param := range []int64{0, 4, 3, 25, -1} {
			for _, f := range []impl.Filter{filter(kind, param), {Kind: kind, Param: param, Optional: true}} {
				for _, data := range []string{"", "\x00", "\x01a", "\x00\x00\x00\x00", "\x04abcd", "abc", allBytes(1100), allBytes(1101), strings.Repeat("\xffa", 5), strings.Repeat("a", 1100), strings.Repeat("a", 1101), strings.Repeat("\x00a", 551)} {
					_, code := checkApply(t, f, data)
					codes[shown("apply", code)]++
					_, code = checkUndo(t, f, data)
					codes[shown("undo", code)]++
				}
			}
		}
	}
	for _, name := range []string{"apply 0", "apply 1", "apply 5", "undo 0", "undo 1", "undo 9", "undo 10"} {
		if codes["["+name+"]"] == 0 {
			t.Errorf("none of %s: %v", name, codes)
		}
	}
	check(t, "how many codes", len(codes), 7)
}

// All filters with drawn data, and with data that they have made shorter or longer.
func TestP20AllFilters(t *testing.T) {
	m := newTypeMaker(141)
	codes := map[string]int{}
	for _, f := range goodFilters() {
		for range 60 {
			data := m.drawBytes(m.drawLength(1102))
			result, code := checkApply(t, f, data)
			codes[shown("apply", code)]++
			_, code = checkUndo(t, f, data)
			codes[shown("undo", code)]++
			if result == "" {
				continue
			}
			i := m.IntN(len(result))
			_, code = checkUndo(t, f, result[:i])
			codes[shown("part", code)]++
			_, code = checkUndo(t, f, result[:i]+string([]byte{byte(m.IntN(256))})+result[i+1:])
			codes[shown("changed", code)]++
		}
	}
	for _, name := range []string{"apply 0", "apply 1", "apply 5", "undo 0", "undo 1", "undo 9", "undo 10", "part 0", "part 9", "part 10", "changed 0", "changed 9", "changed 10"} {
		if codes["["+name+"]"] < 10 {
			t.Errorf("too few of %s: %v", name, codes)
		}
	}
}

// filterResults returns what all functions of the chapter return.
func filterResults(f impl.Filter, n int64, data string) []any {
	runs, areRuns := impl.RunDecode(data)
	output, areTokens := impl.LzDecode(data)
	applied, code := impl.ApplyFilter(f, data)
	undone, other := impl.UndoFilter(f, data)
	return []any{
		impl.ValidFilter(f), impl.Shuffle(data, n), impl.Unshuffle(data, n), impl.Delta(data, n), impl.Undelta(data, n), impl.RunEncode(data), runs, areRuns,
		impl.LzEncode(data), output, areTokens, applied, code, undone, other,
	}
}

func TestP1FiltersReturnForAllArguments(t *testing.T) {
	m := newTypeMaker(142)
	numbers, texts := append(oddNumbers(), math.MinInt32, math.MaxInt32), oddStrings()
	filters := append(goodFilters(), badFilters()...)
	for i, n := range numbers {
		for j := range 40 {
			f := filters[(i*7+j)%len(filters)]
			if j%9 == 0 {
				f = impl.Filter{Kind: n, Param: numbers[(i+j)%len(numbers)], Optional: j%2 == 0}
			}
			data := strings.Repeat(texts[(i*40+j)%len(texts)], m.IntN(700))
			if j%3 == 0 {
				data = m.drawBytes(m.drawLength(1300))
			}
			first := fmt.Sprintf("%q", filterResults(f, n, data))
			second := fmt.Sprintf("%q", filterResults(f, n, strings.Clone(data)))
			checkShown(t, "second call", second, first)
		}
	}
	for _, part := range []string{"\x00", "\x01", "a", "\x80", "\xff", "\x00a", "\x00a\x80\x01\x00", "\xffa"} {
		for _, f := range filters {
			results := filterResults(f, 4, strings.Repeat(part, 1000000))
			check(t, "long data", []any{results[12], results[14]}, []any{int64(impl.ErrInvalid), int64(impl.ErrInvalid)})
		}
	}
}
