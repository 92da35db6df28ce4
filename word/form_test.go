package word_test

import (
	"bytes"
	"strings"
	"testing"
	"unsafe"

	"posthorn/word"
)

// forms checks what Form says of s.
func forms(t *testing.T, s, want string) {
	t.Helper()
	if got := word.Form(s); got != want {
		t.Errorf("Form(%.50q) = %.50q, must be %.50q", s, got, want)
	}
}

// boxes checks what Box says of s, and of what it says.
func boxes(t *testing.T, s, want string, ok bool) {
	t.Helper()
	got, gotOk := word.Box(s)
	if got != want || gotOk != ok {
		t.Errorf("Box(%q) = %q, %t; must be %q, %t", s, got, gotOk, want, ok)
	}
	if again, _ := word.Box(got); ok && again != got {
		t.Errorf("Box(%q) = %q", got, again)
	}
}

// TestForm: P4.3, an atom, else a quoted text, else a literal.
func TestForm(t *testing.T) {
	for s, want := range map[string]string{
		"a": "a", "INBOX": "INBOX", "0": "0", "a/b.c": "a/b.c", "+": "+", "[": "[", "}": "}",
		"NILL": "NILL", "NI": "NI", "ANIL": "ANIL", "N1L": "N1L",
		"NIL": `"NIL"`, "nil": `"nil"`, "nIl": `"nIl"`, "Nil": `"Nil"`,
		"": `""`, " ": `" "`, "a b": `"a b"`, "a{": `"a{"`, "*": `"*"`, "]": `"]"`, `a"b`: `"a\"b"`, `\Seen`: `"\\Seen"`, "\x7f": "\"\x7f\"", "\t": "\"\t\"",
		"\xff": "{1}\r\n\xff", "é": "{2}\r\né", "\x00": "{1}\r\n\x00", "\r": "{1}\r\n\r", "\n": "{1}\r\n\n", "a b\r\n": "{5}\r\na b\r\n",
	} {
		forms(t, s, want)
	}
}

// TestFormBound: P4.3, at most 512 bytes, of an atom and of a quoted text.
func TestFormBound(t *testing.T) {
	for n := 510; n <= 512; n++ {
		forms(t, strings.Repeat("a", n), strings.Repeat("a", n))
		forms(t, strings.Repeat(" ", n), `"`+strings.Repeat(" ", n)+`"`)
		forms(t, strings.Repeat(`"`, n), `"`+strings.Repeat(`\"`, n)+`"`)
	}
	for _, c := range []string{"a", " ", `"`} {
		forms(t, strings.Repeat(c, 513), "{513}\r\n"+strings.Repeat(c, 513))
		forms(t, strings.Repeat(c, 4096), "{4096}\r\n"+strings.Repeat(c, 4096))
	}
}

// TestFormOfEachByte: P4.3, by the ways in which each byte may stand.
func TestFormOfEachByte(t *testing.T) {
	for b, s := range eachByte() {
		for _, x := range []string{s, "a" + s, s + "a"} {
			switch q, ok := word.Quote(x); {
			case bytes.IndexByte([]byte(atomBytes), byte(b)) >= 0:
				forms(t, x, x)
			case ok:
				forms(t, x, q)
			default:
				forms(t, x, word.Literal(x))
			}
		}
	}
}

// TestBox: P4.4, names of mailboxes.
func TestBox(t *testing.T) {
	for s, want := range map[string]string{
		"inBox": "INBOX", "INBOX": "INBOX", "inbox": "INBOX", "Inbox": "INBOX",
		"a/b": "a/b", "a": "a", "~": "~", "inboxes": "inboxes", "inbox/a": "inbox/a", "Inbo": "Inbo", "xinbox": "xinbox",
		"in box": "in box", "a  b": "a  b", "NIL": "NIL", "nil": "nil", "(a)": "(a)", "{3}": "{3}", "[a]": "[a]",
	} {
		boxes(t, s, want, true)
	}
	for _, s := range []string{
		"", " ", "  ", " a", "a ", " a ", " inbox", "inbox ", "a%", "*", `a"b`, `a\b`, `"a"`, "a\r\n", "a\nb", "a\x00", "a\tb", "é", "a\x7f", "\x80", "a\xffb",
		"\u0131nbox", // a rune whose great form is I
	} {
		boxes(t, s, "", false)
	}
}

// TestBoxBound: P4.4, 1 to 64 bytes.
func TestBoxBound(t *testing.T) {
	for n := range 200 {
		s := strings.Repeat("x", n)
		if n >= 1 && n <= 64 {
			boxes(t, s, s, true)
		} else {
			boxes(t, s, "", false)
		}
	}
	boxes(t, strings.Repeat("x", 1<<20), "", false)
}

// TestBoxOfEachByte: P4.4, at the beginning, within, and at the end.
func TestBoxOfEachByte(t *testing.T) {
	for b, s := range eachByte() {
		within := bytes.IndexByte([]byte(boxBytes), byte(b)) >= 0
		for _, x := range []string{s, s + "a", "a" + s, "a" + s + "a"} {
			if within && (s != " " || x == "a a") {
				boxes(t, x, x, true)
			} else {
				boxes(t, x, "", false)
			}
		}
	}
}

// TestBoxLetters: P4.4, INBOX goes by any letters, no other name does.
func TestBoxLetters(t *testing.T) {
	for n := range 32 {
		var inbox, other []byte
		for i := range 5 {
			small := byte(n>>i&1) * 32
			inbox = append(inbox, "INBOX"[i]+small)
			other = append(other, "INBOY"[i]+small)
		}
		boxes(t, string(inbox), "INBOX", true)
		boxes(t, string(other), string(other), true)
	}
}

// TestKeepsNone: what is told has memory of its own: that of what was handed in may hold other bytes later.
func TestKeepsNone(t *testing.T) {
	for _, s := range []string{"horn", "INBOX", "a b", `"horn" x`} {
		b := []byte(s)
		in := unsafe.String(&b[0], len(b))
		upper, form, literal := word.Upper(in), word.Form(in), word.Literal(in)
		box, _ := word.Box(in)
		quote, _ := word.Quote(in)
		unquote, _, _ := word.Unquote(in)
		told := strings.Join([]string{upper, form, literal, box, quote, unquote}, "\n")
		clear(b)
		if now := strings.Join([]string{upper, form, literal, box, quote, unquote}, "\n"); now != told {
			t.Errorf("of %q: %q became %q", s, told, now)
		}
	}
}
