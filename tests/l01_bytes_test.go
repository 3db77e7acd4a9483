package tests

import (
	"encoding/binary"
	"encoding/hex"
	"hash/crc32"
	"math"
	"strconv"
	"strings"
	"sync"
	"testing"

	"loop.example/g00904/impl"
)

// sizesOutside are no numbers of bytes of a number.
var sizesOutside = []int64{math.MinInt64, -8, -1, 0, 9, 16, 64, math.MaxInt64}

func TestP2ErrorCodes(t *testing.T) {
	codes := []int64{impl.OK, impl.ErrInvalid, impl.ErrRange, impl.ErrNotFound, impl.ErrExists, impl.ErrFull, impl.ErrState,
		impl.ErrType, impl.ErrConvert, impl.ErrChecksum, impl.ErrCorrupt, impl.ErrLoop, impl.ErrSyntax, impl.ErrPower}
	names := []string{"ok", "invalid", "range", "not-found", "exists", "full", "state",
		"type", "convert", "checksum", "corrupt", "loop", "syntax", "power"}
	for i, code := range codes {
		check(t, "code of "+names[i], code, int64(i))
		check(t, "name of code "+strconv.Itoa(i), impl.CodeName(code), names[i])
	}
	for _, code := range []int64{math.MinInt64, -14, -1, 14, 15, 256, math.MaxInt64} {
		check(t, "name of no code", impl.CodeName(code), "")
	}
	check(t, "MaxName", impl.MaxName, 12)
}

func littleEndian8(n int64) string {
	return string(binary.LittleEndian.AppendUint64(nil, uint64(n)))
}

func checkUint(t *testing.T, n, size int64, fits bool) {
	t.Helper()
	what := "unsigned " + strconv.FormatInt(n, 10) + " in " + strconv.FormatInt(size, 10)
	got := impl.PutUint(n, size)
	if !fits {
		check(t, what, got, "")
		return
	}
	check(t, what, got, littleEndian8(n)[:size])
	back, ok := impl.GetUint("ab"+got+"c", 2, size)
	check(t, what+" restored", []any{back, ok}, []any{n, true})
}

func checkInt(t *testing.T, n, size int64, fits bool) {
	t.Helper()
	what := "signed " + strconv.FormatInt(n, 10) + " in " + strconv.FormatInt(size, 10)
	got := impl.PutInt(n, size)
	if !fits {
		check(t, what, got, "")
		return
	}
	check(t, what, got, littleEndian8(n)[:size])
	back, ok := impl.GetInt("ab"+got+"c", 2, size)
	check(t, what+" restored", []any{back, ok}, []any{n, true})
}

func TestP2NumbersAtTheirLimits(t *testing.T) {
	for size := int64(1); size <= 7; size++ {
		end := int64(1) << (8 * size)
		checkUint(t, 0, size, true)
		checkUint(t, end-1, size, true)
		checkUint(t, end, size, false)
		half := end / 2
		checkInt(t, half-1, size, true)
		checkInt(t, half, size, false)
		checkInt(t, -half, size, true)
		checkInt(t, -half-1, size, false)
	}
	for size := int64(1); size <= 8; size++ {
		checkUint(t, -1, size, false)
		checkUint(t, math.MinInt64, size, false)
		checkUint(t, math.MaxInt64, size, size == 8)
		checkInt(t, -1, size, true)
		checkInt(t, 0, size, true)
		checkInt(t, math.MinInt64, size, size == 8)
		checkInt(t, math.MaxInt64, size, size == 8)
	}
}

func TestP2EveryNumberOfTwoBytes(t *testing.T) {
	for n := int64(-70000); n <= 70000; n++ {
		checkUint(t, n, 1, 0 <= n && n < 256)
		checkUint(t, n, 2, 0 <= n && n < 65536)
		checkInt(t, n, 1, -128 <= n && n < 128)
		checkInt(t, n, 2, -32768 <= n && n < 32768)
	}
}

func TestP2ExamplesOfNumbers(t *testing.T) {
	check(t, "PutUint", impl.PutUint(513, 2), "\x01\x02")
	n, ok := impl.GetUint("\x01\x02\x03", 1, 2)
	check(t, "GetUint", []any{n, ok}, []any{int64(770), true})
	check(t, "PutInt", impl.PutInt(-2, 2), "\xfe\xff")
	check(t, "PutInt of too much", impl.PutInt(128, 1), "")
	n, ok = impl.GetInt("\x00\x80\xff", 0, 2)
	check(t, "GetInt of a negative number", []any{n, ok}, []any{int64(-32768), true})
	n, ok = impl.GetInt("\xff\xff\xff\x7f", 1, 3)
	check(t, "GetInt of three bytes", []any{n, ok}, []any{int64(0x7fffff), true})
}

func TestP2UnsignedNumbersBeyondInt64(t *testing.T) {
	most := strings.Repeat("\xff", 7)
	n, ok := impl.GetUint(most+"\x7f", 0, 8)
	check(t, "greatest int64", []any{n, ok}, []any{int64(math.MaxInt64), true})
	for _, s := range []string{"\x00\x00\x00\x00\x00\x00\x00\x80", most + "\x80", most + "\xff"} {
		n, ok = impl.GetUint(s, 0, 8)
		check(t, "GetUint beyond int64", []any{n, ok}, []any{int64(0), false})
	}
	n, ok = impl.GetInt(most+"\xff", 0, 8)
	check(t, "GetInt of all ones", []any{n, ok}, []any{int64(-1), true})
}

func TestP2NumbersOfNoSize(t *testing.T) {
	s := strings.Repeat("\x01", 70)
	for _, size := range sizesOutside {
		for _, n := range []int64{math.MinInt64, -1, 0, 1, math.MaxInt64} {
			check(t, "PutUint", impl.PutUint(n, size), "")
			check(t, "PutInt", impl.PutInt(n, size), "")
			checkNoNumber(t, s, 0, size)
			checkNoNumber(t, s, n, size)
		}
	}
}

func checkNoNumber(t *testing.T, s string, at, size int64) {
	t.Helper()
	n, ok := impl.GetUint(s, at, size)
	check(t, "GetUint", []any{n, ok}, []any{int64(0), false})
	n, ok = impl.GetInt(s, at, size)
	check(t, "GetInt", []any{n, ok}, []any{int64(0), false})
}

func TestP2NumbersAtOffsets(t *testing.T) {
	s := "\x01\x02\x03\x04\x05\x06\x07\x08\x09"
	for size := int64(1); size <= 8; size++ {
		last := int64(len(s)) - size
		for at := int64(0); at <= last; at++ {
			want := int64(binary.LittleEndian.Uint64([]byte(s[at:at+size] + "\x00\x00\x00\x00\x00\x00\x00")[:8]))
			n, ok := impl.GetUint(s, at, size)
			check(t, "GetUint", []any{n, ok}, []any{want, true})
			n, ok = impl.GetInt(s, at, size)
			check(t, "GetInt", []any{n, ok}, []any{want, true})
		}
		for _, at := range []int64{math.MinInt64, -size, -1, last + 1, 9, 10, math.MaxInt64 - size, math.MaxInt64} {
			checkNoNumber(t, s, at, size)
		}
		checkNoNumber(t, "", 0, size)
	}
}

func TestP2ReverseBytes(t *testing.T) {
	for s, want := range map[string]string{"": "", "a": "a", "ab": "ba", "abc": "cba", "\x00\xff\xc3\xa9": "\xa9\xc3\xff\x00"} {
		check(t, "ReverseBytes", impl.ReverseBytes(s), want)
		check(t, "ReverseBytes twice", impl.ReverseBytes(want), s)
	}
}

func TestP2PadBytes(t *testing.T) {
	long := strings.Repeat("x", 65536)
	for _, c := range []struct {
		s    string
		n    int64
		want string
		ok   bool
	}{
		{"ab", 4, "ab\x00\x00", true}, {"ab", 3, "ab\x00", true}, {"ab", 2, "ab", true}, {"ab", 1, "", false}, {"ab", 0, "", false},
		{"", 0, "", true}, {"", 2, "\x00\x00", true}, {"", -1, "", false}, {"a", -1, "", false},
		{"", math.MinInt64, "", false}, {"a", math.MinInt64, "", false}, {long, math.MinInt64, "", false},
		{"", 65536, strings.Repeat("\x00", 65536), true}, {"", 65537, "", false}, {"", math.MaxInt64, "", false}, {"a", math.MaxInt64, "", false},
		{long, 65536, long, true}, {long, 65537, "", false}, {long, 65535, "", false}, {long + "x", 65537, "", false}, {long + "x", 65536, "", false},
	} {
		got, ok := impl.PadBytes(c.s, c.n)
		if got != c.want || ok != c.ok {
			t.Errorf("PadBytes of %d bytes to %d: got %d bytes, %v", len(c.s), c.n, len(got), ok)
		}
	}
}

// checkCrc32 checks both ways to the result, with the table and without it.
func checkCrc32(t *testing.T, what, s string) {
	t.Helper()
	want := int64(crc32.ChecksumIEEE([]byte(s)))
	check(t, what, impl.Crc32(s), want)
	check(t, what+" by the table", impl.Crc32ByTable(s), want)
}

func TestP2Crc32(t *testing.T) {
	check(t, "example", impl.Crc32("123456789"), int64(3421780262))
	check(t, "empty", impl.Crc32(""), int64(0))
	check(t, "example by the table", impl.Crc32ByTable("123456789"), int64(3421780262))
	check(t, "empty by the table", impl.Crc32ByTable(""), int64(0))
	s := ""
	for b := range 600 {
		checkCrc32(t, "one byte", string([]byte{byte(b)}))
		s += string([]byte{byte(b * b)})
		checkCrc32(t, "many bytes", s)
	}
	checkCrc32(t, "zeros", strings.Repeat("\x00", 65536))
	checkCrc32(t, "ones", strings.Repeat("\xff", 65537))
	checkCrc32(t, "runes", strings.Repeat("a\xc3\xa9\u2028\xff", 5000))
}

func TestP2Crc32OfEveryPair(t *testing.T) {
	for high := range 256 {
		for low := range 256 {
			s := string([]byte{byte(high), byte(low)})
			if got, want := impl.Crc32(s), impl.Crc32ByTable(s); got != want {
				t.Fatalf("Crc32 of %q: got %d, by the table %d", s, got, want)
			}
		}
	}
}

func TestP2HexOfEveryByte(t *testing.T) {
	all := ""
	for b := range 256 {
		all += string([]byte{byte(b)})
	}
	for _, s := range []string{"", "A~", "\x00", "\xff\x0f\xf0", all} {
		text := impl.HexText(s)
		check(t, "HexText", text, hex.EncodeToString([]byte(s)))
		back, ok := impl.ReadHex(text)
		check(t, "ReadHex", []any{back, ok}, []any{s, true})
		check(t, "HexText of what was read", impl.HexText(back), text)
	}
	check(t, "example", impl.HexText("A~"), "417e")
}

// There are exactly 256 forms of one byte, whatever the two characters are.
func TestP2HexOfEveryPair(t *testing.T) {
	read := 0
	for high := range 256 {
		for low := range 256 {
			pair := string([]byte{byte(high), byte(low)})
			s, ok := impl.ReadHex(pair)
			if ok && impl.HexText(s) == pair {
				read++
			} else if ok || s != "" {
				t.Errorf("ReadHex(%q): got %q, %v", pair, s, ok)
			}
		}
	}
	check(t, "pairs that are read", read, 256)
	for _, s := range []string{"4", "417", "417E", "417g", "g17e", "41 7e", " 417e", "417e ", "0x41", "41\x00\x00", "-1", "+1"} {
		back, ok := impl.ReadHex(s)
		check(t, "ReadHex("+s+")", []any{back, ok}, []any{"", false})
	}
}

func TestP2Names(t *testing.T) {
	for _, s := range []string{"a", "Z", "Temp_1", "a_", "a0", "abcdefghijkl", "A12345678901", "a___________"} {
		check(t, "IsName("+s+")", impl.IsName(s), true)
	}
	for _, s := range []string{"", "_", "_a", "1", "1a", "abcdefghijklm", "A123456789012", "a b", " a", "a ", "a-b", "a.b", "a/b",
		"é", "aé", "a\u00df", "\xff", "a\xff", "a\x00", "\x00", "a\n", strings.Repeat("a", 1000)} {
		check(t, "IsName("+s+")", impl.IsName(s), false)
	}
}

func TestP2EveryByteOfAName(t *testing.T) {
	for b := range 256 {
		c := string([]byte{byte(b)})
		letter := "A" <= c && c <= "Z" || "a" <= c && c <= "z"
		inside := letter || "0" <= c && c <= "9" || c == "_"
		check(t, "first byte", impl.IsName(c), letter)
		check(t, "second byte", impl.IsName("x"+c), inside)
		check(t, "twelfth byte", impl.IsName("xxxxxxxxxxx"+c), inside)
	}
}

func bytesResults(s string, n, at, size int64) []any {
	u, isU := impl.GetUint(s, at, size)
	i, isI := impl.GetInt(s, at, size)
	padded, isPadded := impl.PadBytes(s, n)
	read, isRead := impl.ReadHex(s)
	return []any{impl.CodeName(n), impl.PutUint(n, size), u, isU, impl.PutInt(n, size), i, isI, impl.ReverseBytes(s),
		padded, isPadded, impl.Crc32(s), impl.Crc32ByTable(s), impl.HexText(s), read, isRead, impl.IsName(s)}
}

func TestP1BytesReturnForAllArguments(t *testing.T) {
	for _, s := range oddStrings() {
		for _, n := range []int64{math.MinInt64, -1, 0, 1, 8, math.MaxInt64} {
			check(t, "second call", bytesResults(s, n, n, n), bytesResults(s, n, n, n))
		}
	}
	for _, n := range oddNumbers() {
		for _, size := range append([]int64{1, 8}, sizesOutside...) {
			check(t, "second call", bytesResults("417e", n, n, size), bytesResults("417e", n, n, size))
			check(t, "second call", bytesResults("417e", n, size, n), bytesResults("417e", n, size, n))
		}
	}
}

func TestP1BytesAtTheSameTime(t *testing.T) {
	const text = "one after another"
	want := int64(crc32.ChecksumIEEE([]byte(text)))
	var group sync.WaitGroup
	results := make([]int64, 32)
	for i := range results {
		crc := impl.Crc32
		if i%2 == 0 {
			crc = impl.Crc32ByTable
		}
		group.Go(func() { results[i] = crc(text) })
	}
	group.Wait()
	for _, got := range results {
		check(t, "Crc32", got, want)
	}
}
