package digest

import "strings"

const digits = "0123456789abcdef" // a digit's place is what it says

// Hex writes bytes as digits.
func Hex(s string) string {
	var b []byte
	for i := range len(s) { // a range over s itself would go by runes
		b = append(b, digits[s[i]>>4], digits[s[i]&0xf])
	}
	return string(b)
}

// Unhex reads digits.
func Unhex(s string) (string, bool) {
	if len(s)%2 != 0 {
		return "", false
	}
	var b []byte
	for i := range len(s) / 2 {
		high := strings.IndexByte(digits, s[2*i])
		low := strings.IndexByte(digits, s[2*i+1])
		if high < 0 || low < 0 {
			return "", false
		}
		b = append(b, byte(high<<4|low))
	}
	return string(b), true
}
