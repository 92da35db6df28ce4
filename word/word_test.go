package word_test

import (
	"bytes"
	"math"
	"math/big"
	"strings"
	"testing"

	"posthorn/word"
)

// The bytes that may stand in an atom, and those that may stand in a mailbox's name beside them.
const (
	atomBytes = "!#$&'+,-./0123456789:;<=>?@ABCDEFGHIJKLMNOPQRSTUVWXYZ[^_`abcdefghijklmnopqrstuvwxyz|}~"
	boxBytes  = atomBytes + " (){]"
)

// eachByte is all bytes, a text each.
func eachByte() []string {
	var l []string
	for b := range 256 {
		l = append(l, string([]byte{byte(b)}))
	}
	return l
}

// rows is all texts of at most most of these bytes.
func rows(of string, most int) []string {
	l := []string{""}
	for at, n := 0, 0; n < most; n++ {
		end := len(l)
		for ; at < end; at++ {
			for i := range len(of) {
				l = append(l, l[at]+of[i:i+1])
			}
		}
	}
	return l
}

// TestUpper: P4.1, bytes from a to z alone.
func TestUpper(t *testing.T) {
	for _, x := range []struct{ s, want string }{
		{"", ""},
		{"abcdefghijklmnopqrstuvwxyz", "ABCDEFGHIJKLMNOPQRSTUVWXYZ"},
		{"ABCDEFGHIJKLMNOPQRSTUVWXYZ", "ABCDEFGHIJKLMNOPQRSTUVWXYZ"},
		{"inBox.5 `{@[", "INBOX.5 `{@["},
		{"a\x00\r\nz", "A\x00\r\nZ"},
		{"é\u00fdß", "é\u00fdß"},               // their bytes are none from a to z
		{"\u017f\u0131", "\u017f\u0131"},       // runes whose great forms are S and I
		{"a\xffb\x80c\xe1", "A\xffB\x80C\xe1"}, // no runes at all
	} {
		if got := word.Upper(x.s); got != x.want {
			t.Errorf("Upper(%q) = %q, must be %q", x.s, got, x.want)
		}
	}
	for b, s := range eachByte() {
		want := s
		if b >= 'a' && b <= 'z' {
			want = string([]byte{byte(b - 32)})
		}
		if got := word.Upper("x" + s + s); got != "X"+want+want {
			t.Errorf("Upper(%q) = %q", "x"+s+s, got)
		}
	}
}

// TestAtom: P4.1, one atom's byte or more, and no other.
func TestAtom(t *testing.T) {
	for s, want := range map[string]bool{
		"": false, "a": true, "a{": false, "A1.+/:[}": true, "NIL": true, "nil": true, "\\Seen": false,
		"a b": false, " a": false, "a ": false, "a\r\n": false, "{3}": false, "é": false, "a\x00": false,
		atomBytes: true, strings.Repeat("a", 100000): true, strings.Repeat("a", 100000) + "]": false,
	} {
		if got := word.Atom(s); got != want {
			t.Errorf("Atom(%.50q) = %t", s, got)
		}
	}
	for b, s := range eachByte() {
		want := bytes.IndexByte([]byte(atomBytes), byte(b)) >= 0
		for _, x := range []string{s, s + "a", "a" + s, "a" + s + "a", s + s} {
			if got := word.Atom(x); got != want {
				t.Errorf("Atom(%q) = %t, must be %t", x, got, want)
			}
		}
	}
}

// numbers checks what Number says of s.
func numbers(t *testing.T, s string, want uint64, ok bool) {
	t.Helper()
	if got, gotOk := word.Number(s); got != want || gotOk != ok {
		t.Errorf("Number(%.50q) = %d, %t; must be %d, %t", s, got, gotOk, want, ok)
	}
}

// TestNumber: P4.1, numbers up to 2^63 - 1.
func TestNumber(t *testing.T) {
	for s, want := range map[string]uint64{
		"0": 0, "1": 1, "9": 9, "10": 10, "100": 100, "1234567890": 1234567890,
		"4294967295": 1<<32 - 1, "4294967296": 1 << 32,
		"999999999999999999": 999999999999999999, "1000000000000000000": 1000000000000000000,
		"9223372036854775806": 1<<63 - 2, "9223372036854775807": 1<<63 - 1,
	} {
		numbers(t, s, want, true)
	}
}

// TestNumberFaults: P4.1, texts that are no number, and 0 beside them.
func TestNumberFaults(t *testing.T) {
	for _, s := range []string{
		"", "00", "01", "000", "007", "-0", "-1", "+0", "+1", " 1", "1 ", "1 2", "1_000", "_1", "1_", "1,0", "1.", "1.0", "1e3",
		"0x1", "0b1", "0o7", "x", "a", "1a", "a1", "1\x00", "\x001", "1\r\n", "１", "٣", "\xff", "/", ":", "1/", "1:",
		"9223372036854775808", "9223372036854775810", "9223372036854775817", "9300000000000000000",
		"18446744073709551615", "18446744073709551616", "18446744073709551617", "18446744073709551626",
		"10000000000000000000", "100000000000000000000", strings.Repeat("9", 100), strings.Repeat("1", 100000), strings.Repeat("0", 100),
		"0" + "9223372036854775807",
		"36893488147419103233",                    // 1 behind two rounds of 64 bits
		"340282366920938463463374607431768211457", // 1 behind a round of 128
	} {
		numbers(t, s, 0, false)
	}
	for b, s := range eachByte() {
		if b >= '0' && b <= '9' {
			numbers(t, s, uint64(b-'0'), true)
			numbers(t, "4"+s+"2", uint64(402+10*(b-'0')), true)
			continue
		}
		for _, x := range []string{s, s + "1", "1" + s, "1" + s + "1"} {
			numbers(t, x, 0, false)
		}
	}
}

// TestNumberOfAllRows: P4.1, of all short rows of some digits those alone that do not begin with 0.
func TestNumberOfAllRows(t *testing.T) {
	for _, s := range rows("0159", 5)[1:] {
		n, ok := new(big.Int).SetString(s, 10)
		if !ok || n.String() != s {
			numbers(t, s, 0, false)
			continue
		}
		numbers(t, s, n.Uint64(), true)
	}
}

// TestDigits: P4.1 and P4.5, any number in digits, and back up to 2^63 - 1.
func TestDigits(t *testing.T) {
	l := []uint64{0, 9, 10, 11, 99, 100, math.MaxUint32, math.MaxInt64 - 1, math.MaxInt64, math.MaxInt64 + 1, math.MaxUint64 - 1, math.MaxUint64}
	for shift := range 64 {
		l = append(l, 1<<shift, 1<<shift-1, 1<<shift+1)
	}
	for n := uint64(1); n < math.MaxUint64/10; n *= 10 {
		l = append(l, n, n-1, n*7)
	}
	for _, n := range l {
		want := new(big.Int).SetUint64(n).String()
		if got := word.Digits(n); got != want {
			t.Errorf("Digits(%d) = %q", n, got)
		}
		if n <= math.MaxInt64 {
			numbers(t, word.Digits(n), n, true)
		} else {
			numbers(t, word.Digits(n), 0, false)
		}
	}
}
