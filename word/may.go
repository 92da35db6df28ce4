package word

import "strings"

// may says whether a byte may stand somewhere.
type may func(b byte) bool

// from lets the bytes from low to high stand.
func from(low, high byte) may {
	return func(b byte) bool { return low <= b && b <= high }
}

// in lets those of a row stand.
func in(row string) may {
	return func(b byte) bool { return strings.IndexByte(row, b) >= 0 }
}

// but lets those stand that m does and not doesn't.
func but(m, not may) may {
	return func(b byte) bool { return m(b) && !not(b) }
}

// all says whether m lets each byte of s stand.
func all(s string, m may) bool {
	for i := range len(s) { // a range over s itself would go by runes
		if !m(s[i]) {
			return false
		}
	}
	return true
}

func inAtom() may { return but(from(0x21, 0x7e), in(`(){%*"\]`)) }

// inQuotes is of the text that is quoted: a backslash ahead is asked elsewhere.
func inQuotes() may { return but(from(0x01, 0x7f), in(lineEnd)) }

func behindBackslash() may { return in(`"\`) }

func inBox() may { return but(from(blank, 0x7e), in(`%*"\`)) }
