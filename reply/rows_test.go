package reply_test

import (
	"strings"
	"testing"

	"posthorn/api"
	"posthorn/reply"
)

// asks holds what Read says of a text against another road, and says whether it begins with a reply.
func asks(t *testing.T, s string) bool {
	t.Helper()
	n := begins(s)
	if n == 0 {
		refuses(t, s)
		return false
	}
	r, gotN, e := reply.Read(s)
	text, ok := said(r)
	if e != api.OK || gotN != n || !ok || text != s[:n] {
		t.Errorf("Read(%q) = %+v, %d, %d; must be %d bytes, %q, %t", short(s), r, gotN, e, n, text, ok)
		return true
	}
	if text, e := reply.Print(r); text != s[:n] || e != api.OK {
		t.Errorf("Read(%q), printed: %q, %d", short(s), short(text), e)
	}
	return true
}

// rows asks of each row of parts behind ahead, as it is and with what may end it.
func rows(t *testing.T, ahead string, most int, parts ...string) {
	t.Helper()
	var were int
	var ask func(s string, left int)
	ask = func(s string, left int) {
		for _, end := range []string{"", crlf, ")" + crlf} {
			if asks(t, s+end) {
				were++
			}
		}
		for _, p := range parts {
			if left > 0 && !t.Failed() {
				ask(s+p, left-1)
			}
		}
	}
	ask(ahead, most)
	if were == 0 {
		t.Errorf("%q: no row begins with a reply", ahead)
	}
}

// TestRowsOfLines: P9.2 and P9.4, of replies that say a text.
func TestRowsOfLines(t *testing.T) {
	parts := []string{" ", "[", "]", "x", "\r", "\n", "\xff"}
	for _, ahead := range []string{"a OK ", "* NO ", "a BAD ", "* BYE ", "+ "} {
		rows(t, ahead, 5, parts...)
	}
	rows(t, "", 5, "*", " ", "a", "+", "OK", "BYE", crlf, "[x]")
	rows(t, "a ", 5, " ", "OK", "NO", "BYE", "x", "[x] ", crlf)
	rows(t, "* ", 4, " ", "OK", "NO", "BAD", "BYE", "ok", "x", "[x] ", crlf, "3")
}

// TestRowsOfNumbers: P9.2 and P9.4.
func TestRowsOfNumbers(t *testing.T) {
	rows(t, "* ", 5, " ", "0", "1", "EXISTS", "EXPUNGE", "-", "9223372036854775807")
	rows(t, "* ", 4, " ", "0", "7", "EXISTS", "FETCH", "FETCH (UID 1)", crlf, "\x00", "922337203685477580")
	rows(t, "* SEARCH", 6, " ", "0", "1", "(", ")", "(MODSEQ ")
	rows(t, "* SEARCH", 5, " ", "3", "(MODSEQ", ")", "MODSEQ", "9223372036854775807", " (MODSEQ 1)")
}

// TestRowsOfBoxes: P9.2 and P9.4.
func TestRowsOfBoxes(t *testing.T) {
	for _, ahead := range []string{`* LIST () "/" `, "* STATUS "} {
		rows(t, ahead, 5, " ", "x", `"`, "(", ")", `\`, "(UNSEEN 1)", "%")
		rows(t, ahead, 4, `"`, "NIL", "nil", "INBOX", "inbox", "{1}"+crlf, "]", " (MESSAGES 2)")
	}
	rows(t, "* LIST", 6, " ", "()", `"/"`, "x", `"`)
}

// TestRowsOfValues: P9.2 and P9.4.
func TestRowsOfValues(t *testing.T) {
	rows(t, "* STATUS x ", 4, " ", "(", ")", "MESSAGES", "UNSEEN ", "1", "0")
	rows(t, "* STATUS x (", 4, " ", "MESSAGES 1", "UIDNEXT 2", "UIDVALIDITY 3", "UNSEEN 4", "HIGHESTMODSEQ 5", "UID 6", "MODSEQ (7)", ")", "0")
	rows(t, "* 3 FETCH ", 5, " ", "(", ")", "FLAGS", "UID", "1", "MODSEQ")
	rows(t, "* 3 FETCH (", 4, " ", "FLAGS ()", "UID 2", "RFC822.SIZE 3", "MODSEQ (4)", "BODY[] {0}"+crlf, "BODY[HEADER]<1> {1}"+crlf+")", "BODY[TEXT] {2}"+crlf, ")", crlf)
	rows(t, "* 3 FETCH (BODY", 5, "[", "]", "TEXT", "HEADER", ".PEEK", "<1>", " {0}"+crlf)
	rows(t, "* 3 FETCH (BODY[]", 5, "<", ">", "0", "1", " {1}"+crlf+"x")
	rows(t, "* 3 FETCH (BODY[] ", 6, "{", "}"+crlf, "}", "1", "x")
	rows(t, "* 3 FETCH (UID 1", 4, " ", "MODSEQ", "(", ")", "1", "FLAGS ")
}

// TestRowsOfFlags: P9.2 and P9.4.
func TestRowsOfFlags(t *testing.T) {
	for _, ahead := range []string{"* FLAGS ", "* 3 FETCH (FLAGS "} {
		rows(t, ahead, 4, " ", "(", ")", "a", "b", "A", `\Seen`, `\Draft`, `\seen`)
		rows(t, ahead+"(", 5, " ", ")", "a", `\Seen`, `\Flagged`, "b")
	}
}

// TestEachByte: P9.2 and P9.4, each byte at each place of each shape, laid in and instead of the one that stands there.
func TestEachByte(t *testing.T) {
	for _, x := range eachShape() {
		s := x.text + crlf
		for at := range len(s) {
			for b := range 256 {
				c := string([]byte{byte(b)})
				asks(t, s[:at]+c+s[at+1:])
				asks(t, s[:at]+c+s[at:])
			}
			asks(t, s[:at]+s[at+1:])
			asks(t, s[:at]+strings.ToLower(s[at:at+1])+s[at+1:])
		}
		if t.Failed() {
			return
		}
	}
}

// TestCutOff: P9.2 and P9.3, what is cut off is none, and what stands ahead makes it another one or none.
func TestCutOff(t *testing.T) {
	for _, x := range eachShape() {
		s := x.text + crlf
		for n := range len(s) {
			refuses(t, s[:n])
			asks(t, s[n:])
		}
		for _, ahead := range []string{" ", "*", "a", crlf, "\x00"} {
			asks(t, ahead+s)
		}
	}
}

// TestEachWordOfValues: P9.2 and P9.4, each word, and none, ahead of what each of them asks for.
func TestEachWordOfValues(t *testing.T) {
	var were int
	for _, name := range append(strings.Fields("MESSAGES UIDNEXT UIDVALIDITY UNSEEN HIGHESTMODSEQ FLAGS UID RFC822.SIZE MODSEQ BODY[] BODY[HEADER] BODY[TEXT] BODY BODY.PEEK[] RFC822 X 1"), "", " ") {
		for _, what := range []string{"", " ", " 1", " (1)", " ()", " (a)", " {0}" + crlf, "<1> {0}" + crlf, "<1>", "<1> 1", " x", `""`, ` ""`} {
			for _, ahead := range []string{"* STATUS x (", "* STATUS x (UNSEEN 2 ", "* 3 FETCH (", "* 3 FETCH (UID 2 "} {
				if asks(t, ahead+name+what+")"+crlf) {
					were++
				}
			}
		}
	}
	if were != 2*(5+3+2+1+3*2) {
		t.Errorf("%d begin with a reply", were)
	}
}
