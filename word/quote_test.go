package word_test

import (
	"math/rand"
	"regexp"
	"strconv"
	"strings"
	"testing"

	"posthorn/api"
	"posthorn/word"
)

// quoted tells the quoted text with which a text begins, however long, by another road.
var quoted = regexp.MustCompile(`^"(?:[\x01-\x09\x0b\x0c\x0e-\x21\x23-\x5b\x5d-\x7f]|\\["\\])*"`)

// marks takes backslashes off, and lays them on.
var (
	marksOff = strings.NewReplacer(`\"`, `"`, `\\`, `\`)
	marksOn  = strings.NewReplacer(`"`, `\"`, `\`, `\\`)
)

// quotes checks what Quote says of s.
func quotes(t *testing.T, s, want string, ok bool) {
	t.Helper()
	if got, gotOk := word.Quote(s); got != want || gotOk != ok {
		t.Errorf("Quote(%.50q) = %.50q, %t; must be %.50q, %t", s, got, gotOk, want, ok)
	}
}

// unquotes checks what Unquote says of s.
func unquotes(t *testing.T, s, want string, n int, ok bool) {
	t.Helper()
	if got, gotN, gotOk := word.Unquote(s); got != want || gotN != n || gotOk != ok {
		t.Errorf("Unquote(%.50q) = %.50q, %d, %t; must be %.50q, %d, %t", s, got, gotN, gotOk, want, n, ok)
	}
}

// mayBeQuoted says which bytes may.
func mayBeQuoted(b int) bool { return b >= 1 && b <= 0x7f && b != '\r' && b != '\n' }

// TestQuote: P4.2, quoted texts.
func TestQuote(t *testing.T) {
	for s, want := range map[string]string{
		"": `""`, "x": `"x"`, "NIL": `"NIL"`, "a b": `"a b"`, `a"b`: `"a\"b"`, `a\b`: `"a\\b"`,
		`"`: `"\""`, `\`: `"\\"`, `\"`: `"\\\""`, `""\\`: `"\"\"\\\\"`, "{3}": `"{3}"`, "\x01\t\x7f": "\"\x01\t\x7f\"",
	} {
		quotes(t, s, want, true)
		unquotes(t, want, s, len(want), true)
	}
	for _, s := range []string{"\r\n", "a\nb", "\x00", "a\x00", "é", "a\x80", "\xff", "{1}\r\nx"} {
		quotes(t, s, "", false)
	}
}

// TestQuoteOfEachByte: P4.2, alone and among others.
func TestQuoteOfEachByte(t *testing.T) {
	for b, s := range eachByte() {
		for _, x := range []string{s, s + "a", "a" + s, "a" + s + `"` + s + `\`} {
			if mayBeQuoted(b) {
				quotes(t, x, `"`+marksOn.Replace(x)+`"`, true)
			} else {
				quotes(t, x, "", false)
			}
		}
	}
}

// TestQuoteBound: P4.2, at most 512 bytes, not counting what quoting lays on.
func TestQuoteBound(t *testing.T) {
	for _, c := range []string{"a", " ", `"`, `\`, "\x7f"} {
		for n := 510; n <= 515; n++ {
			s := strings.Repeat(c, n)
			q := `"` + marksOn.Replace(s) + `"`
			if n <= 512 {
				quotes(t, s, q, true)
				unquotes(t, q, s, len(q), true)
				unquotes(t, q+`"`, s, len(q), true)
			} else {
				quotes(t, s, "", false)
				unquotes(t, q, "", 0, false)
				unquotes(t, q+`"`, "", 0, false)
			}
		}
	}
	quotes(t, strings.Repeat("a", 1<<20), "", false)
	unquotes(t, `"`+strings.Repeat("a", 1<<20)+`"`, "", 0, false)
	if api.MaxQuoted != 512 {
		t.Error("the limit")
	}
}

// TestUnquote: P4.2, the quoted text with which a text begins.
func TestUnquote(t *testing.T) {
	for _, x := range []struct {
		s, want string
		n       int
	}{
		{`"x" y`, "x", 3},
		{`""`, "", 2},
		{`"""`, "", 2},
		{`"" ""`, "", 2},
		{`"a\"b" c`, `a"b`, 6},
		{`"\\"`, `\`, 4},
		{`"\\""`, `\`, 4},
		{`"\\\"" `, `\"`, 6},
		{`"a"b"`, "a", 3},
		{"\"a\"\r\n\x00\xff", "a", 3},
		{"\"(){%*]\"", "(){%*]", 8},
		{`"NIL"`, "NIL", 5},
	} {
		unquotes(t, x.s, x.want, x.n, true)
	}
}

// TestUnquoteFaults: P4.2, texts that begin with no quoted text.
func TestUnquoteFaults(t *testing.T) {
	for _, s := range []string{
		"", `"`, "x", ` "x"`, `x"y"`, `\"x"`, `'x'`, "\x00", "{1}\r\nx",
		`"x`, `"x\`, `"\`, `"\"`, `"x\"`, `"\\\"`, `"\\`, // not closed
		`"\a"`, `"\n"`, `"\ "`, `"\x00"`, "\"\\\r\"", "\"\\\x00\"", "\"\\\xff\"", `"a\` + "\n" + `"`, // a backslash ahead of another byte
		"\"a\nb\"", "\"a\rb\"", "\"\r\n\"", "\"\x00\"", "\"é\"", "\"\x80\"", "\"a\xff\"", // bytes that may not stand within
	} {
		unquotes(t, s, "", 0, false)
	}
}

// TestUnquoteOfEachByte: P4.2, alone between marks, and behind a backslash.
func TestUnquoteOfEachByte(t *testing.T) {
	for b, s := range eachByte() {
		switch {
		case b == '"':
			unquotes(t, `"`+s+`"`, "", 2, true)
			unquotes(t, `"a`+s+`b"`, "a", 3, true)
		case b == '\\' || !mayBeQuoted(b):
			unquotes(t, `"`+s+`"`, "", 0, false)
			unquotes(t, `"a`+s+`b"`, "", 0, false)
		default:
			unquotes(t, `"`+s+`"`, s, 3, true)
			unquotes(t, `"a`+s+`b"`, "a"+s+"b", 5, true)
		}
		if b == '"' || b == '\\' {
			unquotes(t, `"\`+s+`"`, s, 4, true)
			unquotes(t, `"a\`+s+`b"`, "a"+s+"b", 6, true)
		} else {
			unquotes(t, `"\`+s+`"`, "", 0, false)
			unquotes(t, `"a\`+s+`b"`, "", 0, false)
		}
	}
}

// TestUnquoteOfAllRows: P4.2 and P4.5, of all short texts of some bytes, by another road.
func TestUnquoteOfAllRows(t *testing.T) {
	for _, s := range rows("\"\\a\n\x00\x7f\xc3", 6) {
		q := quoted.FindString(s)
		if q == "" {
			unquotes(t, s, "", 0, false)
			continue
		}
		text := marksOff.Replace(q[1 : len(q)-1])
		unquotes(t, s, text, len(q), true)
		quotes(t, text, q, true)
	}
}

// TestThereAndBack: P4.5, of all short texts of some bytes and of long ones, whatever stands behind; cut off, none of it is left.
func TestThereAndBack(t *testing.T) {
	l := rows("\"\\a \x7f", 5)
	dice := rand.New(rand.NewSource(4))
	for range 500 {
		b := make([]byte, dice.Intn(513))
		for i := range b {
			b[i] = "\"\\az \t\x01\x7f"[dice.Intn(8)]
		}
		l = append(l, string(b))
	}
	for _, s := range l {
		q, ok := word.Quote(s)
		if !ok {
			t.Fatalf("Quote(%q)", s)
		}
		for _, behind := range []string{"", `"`, `\`, " x", "\r\n", "\x00", "\xff", q} {
			unquotes(t, q+behind, s, len(q), true)
		}
		for n := range min(len(q), 20) {
			unquotes(t, q[:n], "", 0, false)
		}
	}
}

// TestLiteral: P4.2, whatever the bytes are.
func TestLiteral(t *testing.T) {
	for s, want := range map[string]string{
		"": "{0}\r\n", "x": "{1}\r\nx", "\xff": "{1}\r\n\xff", "é": "{2}\r\né", "\r\n": "{2}\r\n\r\n",
		"\x00\"\\{": "{4}\r\n\x00\"\\{", "{1}\r\nx": "{6}\r\n{1}\r\nx",
	} {
		if got := word.Literal(s); got != want {
			t.Errorf("Literal(%q) = %q, must be %q", s, got, want)
		}
	}
	for _, n := range []int{9, 10, 99, 100, 513, 4096, 4097, 100000} {
		s := strings.Repeat("\x0a", n)
		if got := word.Literal(s); got != "{"+strconv.Itoa(n)+"}\r\n"+s {
			t.Errorf("Literal of %d bytes = %.20q", n, got)
		}
	}
}
