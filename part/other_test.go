package part_test

import (
	"math/rand"
	"regexp"
	"slices"
	"strings"
	"testing"

	"posthorn/api"
	"posthorn/part"
)

// By another road: where a header ends, where a line goes on with the one ahead, and what a field is.
var (
	headed  = regexp.MustCompile(`(?s)^(?:\r\n|.*?\r\n\r\n)`)
	folded  = regexp.MustCompile(`\r\n([ \t])`)
	fielded = regexp.MustCompile(`(?s)^([^:]+):[ \t]*(.*?)[ \t]*$`)
)

// otherSplit parts a message by another road.
func otherSplit(m string) (string, string) {
	if at := headed.FindStringIndex(m); at != nil {
		return m[:at[1]], m[at[1]:]
	}
	return m, ""
}

// otherFields is the fields of a message by another road.
func otherFields(m string) []pair {
	var l []pair
	header, _ := otherSplit(m)
	for _, line := range strings.Split(folded.ReplaceAllString(header, "$1"), crlf) {
		if x := fielded.FindStringSubmatch(line); x != nil {
			l = append(l, pair{x[1], x[2]})
		}
	}
	return l
}

// sameLetters says by another road whether two texts are the same in whatever letters.
func sameLetters(s, x string) bool { return great(s) == great(x) }

// great is a text in great letters.
func great(s string) string {
	b := []byte(s)
	for i := range b {
		if isLetter(int(b[i])) {
			b[i] &^= 32
		}
	}
	return string(b)
}

// otherHolds goes by each place.
func otherHolds(s, x string) bool {
	for at := range len(s) + 1 {
		if at+len(x) <= len(s) && sameLetters(s[at:at+len(x)], x) {
			return true
		}
	}
	return false
}

// keeps checks all that is promised of a message.
func keeps(t *testing.T, m string) {
	t.Helper()
	header, text := otherSplit(m)
	want := otherFields(m)
	splits(t, header, text)
	goesOver(t, m, want)
	for _, f := range want {
		first := slices.IndexFunc(want, func(g pair) bool { return sameLetters(f.name, g.name) })
		says(t, m, f.name, want[first].value, true)
		says(t, m, great(f.name), want[first].value, true)
	}
	says(t, m, "", "", false)
	says(t, m, "other", "", false)
	holds(t, m, header, true)
	holds(t, m, strings.ToUpper(text), otherHolds(m, strings.ToUpper(text)))
}

// eachRow calls f with each row of up to n parts.
func eachRow(parts []string, n int, f func(s string)) {
	rows := []string{""}
	for range n {
		var longer []string
		for _, row := range rows {
			for _, p := range parts {
				longer = append(longer, row+p)
				f(row + p)
			}
		}
		rows = longer
	}
}

// TestRows: P10.1 to P10.3, all short rows of awkward parts, by another road.
func TestRows(t *testing.T) {
	most := 6
	if testing.Short() {
		most = 4
	}
	eachRow([]string{crlf, "\r", "\n", " ", "\t", ":", "a", "A"}, most, func(s string) {
		if !t.Failed() {
			keeps(t, s)
		}
	})
	eachRow([]string{crlf, " ", ":", "a"}, most+2, func(s string) {
		if !t.Failed() {
			goesOver(t, s, otherFields(s))
			goesOver(t, "b"+s, otherFields("b"+s))
		}
	})
}

// TestHoldsRows: P10.4, all short texts of a few bytes, by another road.
func TestHoldsRows(t *testing.T) {
	texts := []string{""}
	eachRow([]string{"a", "A", "b", "@", "\xc3"}, 4, func(s string) { texts = append(texts, s) })
	for _, s := range texts {
		for _, x := range texts {
			if len(x) < 4 && !t.Failed() {
				holds(t, s, x, otherHolds(s, x))
			}
		}
	}
}

// thrown is a text of n parts of dice.
func thrown(dice *rand.Rand, n int) string {
	parts := []string{crlf, crlf, crlf + " ", crlf + "\t", "\r", "\n", " ", "\t", ":", ": ", "Subject: ", "To:", "to :", "a", "B", "horn", "é", "\xff", "\x00", "", crlf + crlf}
	var b strings.Builder
	for range n {
		b.WriteString(parts[dice.Intn(len(parts)-dice.Intn(2))]) // the last part, which ends a header, comes less often than the others
	}
	return b.String()
}

// TestDice: P10.1 to P10.4, messages of dice.
func TestDice(t *testing.T) {
	dice := rand.New(rand.NewSource(10))
	for range 20000 {
		m := thrown(dice, 1+dice.Intn(40))
		keeps(t, m)
		x := thrown(dice, dice.Intn(3))
		holds(t, m, x, otherHolds(m, x))
		from := dice.Intn(len(m) + 1)
		holds(t, m, great(m[from:from+dice.Intn(len(m)-from+1)]), true)
		if t.Failed() {
			return
		}
	}
}

// TestWhole: P10.5, of texts of all kinds.
func TestWhole(t *testing.T) {
	whole := func(m string) {
		header, text := part.Split(m)
		if header+text != m || part.Section(m, api.ItemHeader)+part.Section(m, api.ItemText) != m || part.Section(m, api.ItemBody) != m {
			t.Errorf("the header and the text of %q: %q, %q", m, header, text)
		}
	}
	eachRow([]string{crlf, "\r", "\n", "a", ":"}, 6, whole)
	dice := rand.New(rand.NewSource(105))
	for range 5000 {
		whole(thrown(dice, dice.Intn(60)))
	}
}

// TestPieces: P10.6, cuts of each length, one behind the other.
func TestPieces(t *testing.T) {
	dice := rand.New(rand.NewSource(106))
	for range 300 {
		s := thrown(dice, dice.Intn(30))
		for count := 1; count <= len(s)+2; count++ {
			got := ""
			for from := 0; from < len(s)+2*count; from += count {
				piece := part.Cut(s, uint64(from), uint64(count))
				if len(piece) != max(min(len(s)-from, count), 0) {
					t.Errorf("Cut(%q, %d, %d) = %q", s, from, count, piece)
				}
				got += piece
			}
			if got != s {
				t.Errorf("cuts of %d bytes of %q: %q", count, s, got)
			}
		}
	}
}

// TestPutAhead: P10.7, a field that is put ahead of a header is its first one, and the others stay behind it.
func TestPutAhead(t *testing.T) {
	ahead := func(m string) {
		for _, f := range []pair{{"X", "y"}, {"a", ""}, {"Subject", "a: b"}, {"To", "horn\t x"}} {
			if strings.HasPrefix(m, " ") || strings.HasPrefix(m, "\t") { // goes on with what is put ahead
				continue
			}
			put := f.name + ": " + f.value + crlf + m
			want := append([]pair{f}, otherFields(m)...)
			goesOver(t, put, want)
			says(t, put, f.name, f.value, true)
			says(t, put, strings.ToLower(f.name), f.value, true)
			header, text := part.Split(m)
			splits(t, f.name+": "+f.value+crlf+header, text)
		}
	}
	eachRow([]string{crlf, "\r", "\n", "a", ":", " ", "To:"}, 4, func(m string) {
		if !t.Failed() {
			ahead(m)
		}
	})
	dice := rand.New(rand.NewSource(107))
	for range 2000 {
		if m := thrown(dice, 1+dice.Intn(40)); !t.Failed() {
			ahead(m)
		}
	}
	for _, m := range []string{" go\r\na: b", "\tgo\r\n\r\nx", " "} { // what goes on with it goes to its value
		if l := all("X: y" + crlf + m); len(l) == 0 || l[0].name != "X" || !strings.HasPrefix(l[0].value, "y") {
			t.Errorf("a field ahead of %q: %q", m, l)
		}
	}
}
