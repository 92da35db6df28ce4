package flag_test

import (
	"bytes"
	"strings"
	"testing"
	"unsafe"

	"posthorn/api"
	"posthorn/flag"
)

// The bytes that may stand in a keyword as it is kept; great letters may stand in its name beside them.
const (
	keptBytes    = "!#$&'+,-./0123456789:;<=>?@[^_`abcdefghijklmnopqrstuvwxyz|}~"
	greatLetters = "ABCDEFGHIJKLMNOPQRSTUVWXYZ"
)

// ofSystem is the flags of the system, in their order.
func ofSystem() []string { return []string{`\Answered`, `\Flagged`, `\Deleted`, `\Seen`, `\Draft`} }

// canons checks what Canon says of s, and of what it says.
func canons(t *testing.T, s, want string, ok bool) {
	t.Helper()
	got, gotOk := flag.Canon(s)
	if got != want || gotOk != ok {
		t.Errorf("Canon(%.50q) = %.50q, %t; must be %.50q, %t", s, got, gotOk, want, ok)
	}
	if again, againOk := flag.Canon(got); ok && (again != got || !againOk) {
		t.Errorf("Canon(%.50q) = %.50q, %t", got, again, againOk)
	}
}

// isKept says whether a byte may stand in a keyword as it is kept.
func isKept(b int) bool { return bytes.IndexByte([]byte(keptBytes), byte(b)) >= 0 }

// isGreat says whether a byte is a great letter.
func isGreat(b int) bool { return b >= 'A' && b <= 'Z' }

// TestCanon: P6.1, flags of the system and keywords by any letters.
func TestCanon(t *testing.T) {
	for s, want := range map[string]string{
		`\seen`: `\Seen`, `\SEEN`: `\Seen`, `\Seen`: `\Seen`, `\sEEN`: `\Seen`,
		`\answered`: `\Answered`, `\flagged`: `\Flagged`, `\deleted`: `\Deleted`, `\draft`: `\Draft`,
		"Work": "work", "work": "work", "WORK": "work", "a": "a", "A": "a", "Z": "z", "0": "0", "$Forwarded": "$forwarded", "A.B/c[d}": "a.b/c[d}",
		"seen": "seen", "Seen": "seen", "answered": "answered", "Recent": "recent", // without a backslash they are keywords
		"NIL": "nil", "INBOX": "inbox", "@[`": "@[`", "|Zz^_": "|zz^_", "007": "007", "-": "-", "+FLAGS": "+flags", "/seen": "/seen",
	} {
		canons(t, s, want, true)
	}
}

// TestCanonFaults: P6.1, texts that name no flag.
func TestCanonFaults(t *testing.T) {
	for _, s := range []string{
		"", " ", "a b", " a", "a ", "a\r\n", "a\n", "a\x00", "\x00", "\t", "(", ")", "()", "(a)", "a(", "a)", "a{", "{1}", "*", "%", `"`, `"a"`, "]", "a]",
		`\`, `\\`, `\Recent`, `\recent`, `\*`, `\Work`, `\work`, `\S`, `\See`, `\Seen `, ` \Seen`, `\Seen\`, `\\Seen`, `\Seen\Seen`, `\Seen a`, `\Seens`, `\ Seen`, `Seen\`, `a\Seen`, `a\`,
		`\Answere`, `\Answeredx`, `\Flag`, `\Delete`, `\Drafts`, `\Unseen`, "\\Seen\x00", "\\Seen\n",
		"é", "É", "\xff", "a\x80", "\x7f", "a\x7f",
		"\\\u017feen", "wor\u212a", "\u0131", "\u0130", // runes that fold to S, K and I
	} {
		canons(t, s, "", false)
	}
}

// TestCanonOfEachByte: P6.1, a keyword's bytes, alone and among others.
func TestCanonOfEachByte(t *testing.T) {
	for b := range 256 {
		s := string([]byte{byte(b)})
		for _, x := range []string{s, "a" + s, s + "a", "A" + s + "A", "a" + s + "b", s + s} {
			if isKept(b) || isGreat(b) {
				canons(t, x, strings.ToLower(x), true)
			} else {
				canons(t, x, "", false)
			}
		}
	}
	canons(t, greatLetters, "abcdefghijklmnopqrstuvwxyz", true)
}

// TestCanonOfSystemLetters: P6.1, the flags of the system by all ways to write their letters, and with any other byte in the place of one.
func TestCanonOfSystemLetters(t *testing.T) {
	for _, f := range ofSystem() {
		for n := range 1 << (len(f) - 1) {
			s := []byte(f)
			for i := 1; i < len(s); i++ {
				if s[i] |= 32; n>>(i-1)&1 == 1 {
					s[i] &^= 32
				}
			}
			canons(t, string(s), f, true)
			canons(t, string(s[1:]), strings.ToLower(f[1:]), true) // a keyword
		}
		for i := range len(f) {
			for b := range 256 {
				s := []byte(f)
				s[i] = byte(b)
				switch {
				case i == 0 && (isKept(b) || isGreat(b)): // a keyword
					canons(t, string(s), string(bytes.ToLower(s)), true)
				case b == int(f[i]) || i > 0 && b|32 == int(f[i])|32:
					canons(t, string(s), f, true)
				default:
					canons(t, string(s), "", false)
				}
			}
		}
		canons(t, f[:len(f)-1], "", false)
		canons(t, f+"a", "", false)
		canons(t, f+strings.Repeat("a", 100), "", false)
	}
}

// TestCanonBound: P6.1, a keyword has at most 32 bytes.
func TestCanonBound(t *testing.T) {
	if api.MaxKeyword != 32 || api.MaxFlags != 16 {
		t.Error("the limits")
	}
	for _, c := range []string{"a", "0", "~"} {
		for n := 1; n <= 32; n++ {
			canons(t, strings.Repeat(c, n), strings.Repeat(c, n), true)
		}
		for _, n := range []int{33, 34, 64, 256, 257, 288, 1 << 20} {
			canons(t, strings.Repeat(c, n), "", false)
		}
	}
	canons(t, strings.Repeat("A", 32), strings.Repeat("a", 32), true)
	canons(t, strings.Repeat("A", 33), "", false)
	canons(t, strings.Repeat("a", 31)+" ", "", false)
	canons(t, `\`+strings.Repeat("a", 31), "", false)
	canons(t, strings.Repeat(" ", 1<<20), "", false)
}

// TestHas: P6.2, byte by byte, of any list and any text.
func TestHas(t *testing.T) {
	l := []string{`\Seen`, "work", "b c", "", "\xff", "Work2", `\x`}
	for _, f := range l {
		if !flag.Has(l, f) || flag.Has(nil, f) || flag.Has([]string{}, f) || !flag.Has([]string{f}, f) || flag.Has([]string{f + "x"}, f) {
			t.Errorf("Has of %q", f)
		}
	}
	for _, f := range []string{`\seen`, `\SEEN`, "Seen", "Work", "WORK", "wor", "works", "b", "c", " ", "\xfe", "work2", "é", `\Seen work`, `\Draft`} {
		if flag.Has(l, f) {
			t.Errorf("Has of %q", f)
		}
	}
	if flag.Has([]string{"a", "b"}, "") || !flag.Has([]string{"a", "a"}, "a") || flag.Has(nil, "") {
		t.Error("Has of nothing, of one that stands twice")
	}
}

// borrowed is a text whose memory is b.
func borrowed(b []byte) string { return unsafe.String(unsafe.SliceData(b), len(b)) }

// TestKeepsNone: what is told has memory of its own: that of what was handed in may hold other bytes later.
func TestKeepsNone(t *testing.T) {
	for _, name := range []string{"horn", "HORN", `\Seen`, `\seen`, "a-long-keyword"} {
		b, listed := []byte(name), []byte("("+name+")")
		in := borrowed(b)
		canon, _ := flag.Canon(in)
		made, _ := flag.Make(in)
		parsed, _, _ := flag.Parse(borrowed(listed))
		told := append(append([]string{canon, flag.Print([]string{in}), flag.Print(nil)}, made...), parsed...)
		if flag.Right([]string{in}) {
			for how := range 3 {
				l, _ := flag.Change([]string{in}, how, nil)
				by, _ := flag.Change([]string{"a", "z"}, how, []string{in})
				told = append(append(told, l...), by...)
			}
		}
		was := strings.Join(told, "\n")
		clear(b)
		clear(listed)
		if now := strings.Join(told, "\n"); now != was {
			t.Errorf("of %q: %q became %q", name, was, now)
		}
	}
}
