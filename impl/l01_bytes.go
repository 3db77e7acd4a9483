package impl

import (
	"math"
	"slices"
	"strings"
	"sync"
)

// Error codes.
const (
	OK = iota
	ErrInvalid
	ErrRange
	ErrNotFound
	ErrExists
	ErrFull
	ErrState
	ErrType
	ErrConvert
	ErrChecksum
	ErrCorrupt
	ErrLoop
	ErrSyntax
	ErrPower
)

// MaxName is the greatest number of bytes of a name.
const MaxName = 12

const (
	maxPadded     = 65536
	hexDigits     = "0123456789abcdef"
	crcPolynomial = 0xEDB88320
)

var codeNames = [...]string{
	OK:          "ok",
	ErrInvalid:  "invalid",
	ErrRange:    "range",
	ErrNotFound: "not-found",
	ErrExists:   "exists",
	ErrFull:     "full",
	ErrState:    "state",
	ErrType:     "type",
	ErrConvert:  "convert",
	ErrChecksum: "checksum",
	ErrCorrupt:  "corrupt",
	ErrLoop:     "loop",
	ErrSyntax:   "syntax",
	ErrPower:    "power",
}

// The first call of Crc32ByTable fills the table; no call changes it after that.
var (
	crcFilled     sync.Once
	crcRemainders [256]uint32
)

// CodeName returns the name of an error code.
func CodeName(code int64) string {
	if code < 0 || code >= int64(len(codeNames)) {
		return ""
	}
	return codeNames[code]
}

// PutUint returns an unsigned integer of some bytes, the least significant one first.
func PutUint(n, size int64) string {
	if !isNumberSize(size) || n < 0 || n>>(8*size) != 0 {
		return ""
	}
	return littleEndian(uint64(n), size)
}

// GetUint reads an unsigned integer at an offset.
func GetUint(s string, at, size int64) (int64, bool) {
	n, ok := readLittleEndian(s, at, size)
	if !ok || n > math.MaxInt64 {
		return 0, false
	}
	return int64(n), true
}

// PutInt returns a signed integer in two's complement, the least significant byte first.
func PutInt(n, size int64) string {
	if !isNumberSize(size) {
		return ""
	}
	// A number fits if all bits from its sign bit on are equal.
	if high := n >> (8*size - 1); high != 0 && high != -1 {
		return ""
	}
	return littleEndian(uint64(n), size)
}

// GetInt reads a signed integer at an offset.
func GetInt(s string, at, size int64) (int64, bool) {
	n, ok := readLittleEndian(s, at, size)
	if !ok {
		return 0, false
	}
	unused := 64 - 8*size
	return int64(n<<unused) >> unused, true
}

// ReverseBytes returns the bytes of a string in reverse order.
func ReverseBytes(s string) string {
	b := []byte(s)
	slices.Reverse(b)
	return string(b)
}

// PadBytes appends zero bytes up to a length.
func PadBytes(s string, n int64) (string, bool) {
	have := int64(len(s))
	if n < have || n > maxPadded {
		return "", false
	}
	return s + strings.Repeat("\x00", int(n-have)), true
}

// Crc32 returns the CRC-32 of a string.
func Crc32(s string) int64 {
	return crcOf(s, crcRemainder)
}

// Crc32ByTable returns what Crc32 returns, but takes the remainders from a table.
func Crc32ByTable(s string) int64 {
	crcFilled.Do(fillCrcRemainders)
	return crcOf(s, func(b byte) uint32 { return crcRemainders[b] })
}

// HexText returns the bytes of a string as hexadecimal digits.
func HexText(s string) string {
	b := make([]byte, 0, 2*len(s))
	for i := range len(s) {
		b = append(b, hexDigits[s[i]>>4], hexDigits[s[i]&15])
	}
	return string(b)
}

// ReadHex returns the bytes that hexadecimal digits denote.
func ReadHex(s string) (string, bool) {
	if len(s)%2 != 0 {
		return "", false
	}
	b := make([]byte, len(s)/2)
	for i := range b {
		high := strings.IndexByte(hexDigits, s[2*i])
		low := strings.IndexByte(hexDigits, s[2*i+1])
		if high < 0 || low < 0 {
			return "", false
		}
		b[i] = byte(high<<4 | low)
	}
	return string(b), true
}

// IsName reports whether a string is a name.
func IsName(s string) bool {
	if s == "" || len(s) > MaxName {
		return false
	}
	for i, c := range s {
		inside := i > 0 && ('0' <= c && c <= '9' || c == '_')
		if !isLetter(c) && !inside {
			return false
		}
	}
	return true
}

func isLetter(c rune) bool {
	return 'A' <= c && c <= 'Z' || 'a' <= c && c <= 'z'
}

func isNumberSize(size int64) bool {
	return 1 <= size && size <= 8
}

// littleEndian returns the lowest bytes of n, the least significant one first.
func littleEndian(n uint64, size int64) string {
	b := make([]byte, size)
	for i := range b {
		b[i] = byte(n >> (8 * i))
	}
	return string(b)
}

func readLittleEndian(s string, at, size int64) (uint64, bool) {
	if !isNumberSize(size) || at < 0 || at > int64(len(s))-size {
		return 0, false
	}
	n := uint64(0)
	for i := size - 1; i >= 0; i-- {
		n = n<<8 | uint64(s[at+i])
	}
	return n, true
}

// fieldReader takes numbers and bytes from the start of a binary form. It lets
// pass what is missing, as 0 or as fewer bytes, because that shows when what was
// read is written again.
type fieldReader struct{ rest string }

func (r *fieldReader) number(size int64) int64 {
	n, _ := GetUint(r.bytes(size), 0, size)
	return n
}

func (r *fieldReader) bytes(n int64) string {
	taken := r.rest[:min(n, int64(len(r.rest)))]
	r.rest = r.rest[len(taken):]
	return taken
}

func crcOf(s string, remainder func(b byte) uint32) int64 {
	crc := uint32(math.MaxUint32)
	for i := range len(s) {
		crc = remainder(byte(crc)^s[i]) ^ crc>>8
	}
	return int64(^crc)
}

func crcRemainder(b byte) uint32 {
	crc := uint32(b)
	for range 8 {
		// All bits of the mask are those of the one that is shifted out.
		mask := -(crc & 1)
		crc = crc>>1 ^ crcPolynomial&mask
	}
	return crc
}

func fillCrcRemainders() {
	for i := range crcRemainders {
		crcRemainders[i] = crcRemainder(byte(i))
	}
}
