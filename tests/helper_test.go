package tests

import (
	"math"
	"reflect"
	"testing"
)

func check(t *testing.T, what string, got, want any) {
	t.Helper()
	if !reflect.DeepEqual(got, want) {
		t.Errorf("%s: got %#v, want %#v", what, got, want)
	}
}

// oddNumbers are the numbers at which arithmetic goes wrong first.
func oddNumbers() []int64 {
	list := []int64{math.MinInt64, math.MinInt64 + 1, -1, 0, 1, math.MaxInt64 - 1, math.MaxInt64}
	for bit := range 63 {
		n := int64(1) << bit
		list = append(list, n-1, n, n+1, -n-1, -n, -n+1)
	}
	return list
}

func oddStrings() []string {
	list := []string{"", "\x00", "a", "A_1", "é", "\xff\xfe", "\u2028", "0", "-0", "+1", "00", " ", "(", ")", ",", "=", "@", ":"}
	for b := range 256 {
		list = append(list, string([]byte{byte(b)}), string([]byte{'a', byte(b)}))
	}
	return list
}

// everyString calls a function with all strings of so many of the letters.
func everyString(length int, letters string, try func(s string)) {
	total := 1
	for range length {
		total *= len(letters)
	}
	for n := range total {
		s := make([]byte, length)
		for i := range s {
			s[i] = letters[n%len(letters)]
			n /= len(letters)
		}
		try(string(s))
	}
}
