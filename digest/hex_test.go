package digest_test

import (
	"encoding/hex"
	"strings"
	"testing"

	"posthorn/digest"
)

const digits = "0123456789abcdef"

// reads checks what Unhex says of s.
func reads(t *testing.T, s, want string, ok bool) {
	t.Helper()
	if got, gotOk := digest.Unhex(s); got != want || gotOk != ok {
		t.Errorf("Unhex(%q) = %q, %t; must be %q, %t", s, got, gotOk, want, ok)
	}
}

// TestHex: P3.2, each byte as two digits.
func TestHex(t *testing.T) {
	for _, x := range []struct{ s, want string }{
		{"", ""},
		{"\x00", "00"},
		{"\x09\x0a\x0f\x10\x90\xa0\xf0\xff", "090a0f1090a0f0ff"},
		{"horn", "686f726e"},
		{"é", "c3a9"}, // by bytes, not by runes
		{"\xed\xa0\x80", "eda080"},
	} {
		if got := digest.Hex(x.s); got != x.want {
			t.Errorf("Hex(%q) = %q, must be %q", x.s, got, x.want)
		}
		reads(t, x.want, x.s, true)
	}
	for _, n := range []int{255, 256, 4096} {
		if got := digest.Hex(noise(n)); got != hex.EncodeToString([]byte(noise(n))) {
			t.Errorf("Hex of %d bytes", n)
		}
		reads(t, digest.Hex(noise(n)), noise(n), true)
	}
}

// TestHexOfDigests: P3.1 and P3.2, as the chapter shows them.
func TestHexOfDigests(t *testing.T) {
	for s, want := range map[string]string{
		"":    "e3b0c44298fc1c149afbf4c8996fb92427ae41e4649b934ca495991b7852b855",
		"abc": "ba7816bf8f01cfea414140de5dae2223b00361a396177a9cb410ff61f20015ad",
	} {
		if got := digest.Hex(digest.Sum(s)); got != want {
			t.Errorf("Hex(Sum(%q)) = %s, must be %s", s, got, want)
		}
		reads(t, want, digest.Sum(s), true)
	}
}

// TestEachByte: P3.2, there and back of each byte, alone and among others.
func TestEachByte(t *testing.T) {
	for b := range 256 {
		s := string([]byte{byte(b)})
		want := digits[b/16:][:1] + digits[b%16:][:1]
		if got := digest.Hex(s); got != want {
			t.Errorf("Hex(%q) = %q, must be %q", s, got, want)
		}
		reads(t, want, s, true)
		reads(t, "61"+want+"7a", "a"+s+"z", true)
	}
}

// TestUnhexOfAnyTwo: P3.2, of all two bytes those alone are read that Hex writes.
func TestUnhexOfAnyTwo(t *testing.T) {
	for high := range 256 {
		for low := range 256 {
			h, l := strings.IndexByte(digits, byte(high)), strings.IndexByte(digits, byte(low))
			s := string([]byte{byte(high), byte(low)})
			if h < 0 || l < 0 {
				reads(t, s, "", false)
				continue
			}
			reads(t, s, string([]byte{byte(16*h + l)}), true)
		}
	}
}

// TestUnhexFaults: P3.2, texts that are no Hex of any bytes, and nothing of them.
func TestUnhexFaults(t *testing.T) {
	for _, s := range []string{
		"0G", "A0", "a", "0", "000", "abc",
		"0A", "0x", "0x00", "00 00", " 00", "00 ", "00\n", "-1", "+1", "0_", "g0", "0/", "0:", "0`", "0@",
		"é", "00é", "\x00\x00", "０",
		"e3b0c44298fc1c149afbf4c8996fb92427ae41e4649b934ca495991b7852b85",
		"E3b0c44298fc1c149afbf4c8996fb92427ae41e4649b934ca495991b7852b855",
		"e3b0c44298fc1c149afbf4c8996fb92427ae41e4649b934ca495991b7852b85G",
	} {
		reads(t, s, "", false)
	}
}

// TestUnhexFaultAnywhere: P3.2, one byte that is no digit at any place, and one that is left over.
func TestUnhexFaultAnywhere(t *testing.T) {
	good := digest.Hex(noise(20))
	for at := range good {
		for _, bad := range []byte{'A', 'F', 'g', '/', ':', ' ', 0, 0x80, 0xff} {
			b := []byte(good)
			b[at] = bad
			reads(t, string(b), "", false)
		}
		if at%2 == 1 {
			reads(t, good[:at], "", false)
		} else {
			reads(t, good[:at], noise(20)[:at/2], true)
		}
	}
}
