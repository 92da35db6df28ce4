package grammar_test

import (
	"regexp"
	"testing"

	"posthorn/api"
	"posthorn/grammar"
)

// Here all short rows of awkward parts are held against another road: what a row must look like.

const (
	reNumber = `(?:0|[1-9][0-9]{0,17})`
	reUid    = `(?:[1-9][0-9]{0,8}|\*)`
	reRange  = reUid + `(?::` + reUid + `)?`
	reSet    = reRange + `(?:,` + reRange + `)*`
	reQuoted = `"(?:[\x01-\x09\x0b\x0c\x0e-\x21\x23-\x5b\x5d-\x7f]|\\["\\])*"`
	reText   = `(?:[!#-$&'+-\[^-z|}~]+|` + reQuoted + `|\{0\}\r\n|\{1\}\r\n(?s:.))`
	reBox    = `(?:[!#-$&'+-\[^-z|}~]+|"[!#-$&-)+-\[\]-~](?:[ !#-$&-)+-\[\]-~]*[!#-$&-)+-\[\]-~])?"|\{1\}\r\n[!#-$&-)+-\[\]-~])`
	reFlag   = `(?:\\(?i:Answered|Flagged|Deleted|Seen|Draft)|[!#-$&'+-\[^-z|}~]+)`
	reFlags  = `\((?:` + reFlag + `(?: ` + reFlag + `)*)?\)`
	reData   = `(?:\{0\}\r\n|\{1\}\r\n(?s:.))`
	reBody   = `BODY(?:\.PEEK)?\[(?:|HEADER|TEXT)\](?:<` + reNumber + `\.[1-9][0-9]{0,8}>)?`
	reItem   = `(?:FLAGS|UID|RFC822\.SIZE|MODSEQ|` + reBody + `)`
	reAsked  = `(?:MESSAGES|UIDNEXT|UIDVALIDITY|UNSEEN|HIGHESTMODSEQ)`
)

// rows asks of each row of parts behind ahead whether it is parsed just if re says so; how many were is told.
func rows(t *testing.T, re, ahead string, most int, parts ...string) int {
	t.Helper()
	right := regexp.MustCompile(`^(?i:` + re + `)$`)
	var were int
	var ask func(s string, left int)
	ask = func(s string, left int) {
		c, e := grammar.Parse(s)
		switch want := right.MatchString(s); {
		case want != (e == api.OK) || e != api.OK && e != api.ErrForm:
			t.Fatalf("Parse(%q): %d, must be right: %t", s, e, want)
		case want:
			were++
			if text, e := grammar.Print(c); e != api.OK || !isStill(text, c) || !right.MatchString(text) {
				t.Fatalf("Parse(%q), printed: %q, %d", s, text, e)
			}
		}
		for _, p := range parts {
			if left > 0 {
				ask(s+p, left-1)
			}
		}
	}
	ask(ahead, most)
	if were == 0 {
		t.Errorf("%s: no row is right", ahead)
	}
	return were
}

// TestRowsOfTexts: P8.1, of LOGIN and LIST.
func TestRowsOfTexts(t *testing.T) {
	parts := []string{" ", "x", `"`, `\`, "{1}" + crlf, "{0}" + crlf, ")", "*", "\xff"}
	rows(t, `a LOGIN `+reText+` `+reText, "a LOGIN ", 5, parts...)
	rows(t, `a LOGIN `+reText+` `+reText, `a LOGIN "y" `, 5, parts...)
	rows(t, `a LIST "" (?:`+reText+`|(?:[!#-$&'+-\[^-z|}~]|[%*])+)`, `a LIST "" `, 5, append(parts, "%")...)
	rows(t, `a LIST "" (?:`+reText+`|(?:[!#-$&'+-\[^-z|}~]|[%*])+)`, `a LIST `, 6, " ", `"`, `""`, "*", "x", "{0}"+crlf)
}

// TestRowsOfBoxes: P8.1, of commands that name a mailbox.
func TestRowsOfBoxes(t *testing.T) {
	parts := []string{" ", "x", `"`, "(", ")", "{1}" + crlf, "%", "CONDSTORE"}
	for _, name := range []string{"SELECT", "EXAMINE"} {
		rows(t, `a `+name+` `+reBox+`(?: \(CONDSTORE\))?`, "a "+name+" ", 5, parts...)
	}
	rows(t, `a CREATE `+reBox, "a CREATE ", 5, parts...)
	rows(t, `a DELETE `+reBox, "a DELETE ", 5, parts...)
	rows(t, `a COPY `+reSet+` `+reBox, "a COPY ", 5, " ", "1", ":", ",", "*", "0", "x", `"`)
	rows(t, `a APPEND `+reBox+`(?: `+reFlags+`)? `+reData, "a APPEND x ", 6, " ", "(", ")", "b", `\Seen`, "{1}"+crlf, "{0}"+crlf)
	rows(t, `a STATUS `+reBox+` \(`+reAsked+`(?: `+reAsked+`)*\)`, "a STATUS x", 6, " ", "(", ")", "messages", "UIDNEXT", "UNSEEN", "FLAGS")
	rows(t, `a STATUS `+reBox+` \(`+reAsked+`(?: `+reAsked+`)*\)`, "a STATUS x (", 4, " ", ")", "messages", "UIDNEXT", "UIDVALIDITY", "unseen", "HIGHESTMODSEQ", "UID", "MODSEQ", "\x00")
}

// TestRowsOfItems: P8.1, of FETCH.
func TestRowsOfItems(t *testing.T) {
	fetch := `a FETCH ` + reSet + ` (?:` + reItem + `|\(` + reItem + `(?: ` + reItem + `)*\))(?: \(CHANGEDSINCE ` + reNumber + `\))?`
	rows(t, fetch, "a FETCH ", 5, " ", "1", ":", ",", "*", "0", "UID", ")")
	rows(t, fetch, "a FETCH 1 ", 6, " ", "(", ")", "FLAGS", "uid", "BODY[]", "<0.1>", "MODSEQ")
	rows(t, fetch, "a FETCH 1 BODY", 5, "[", "]", "TEXT", "HEADER", ".PEEK", "<1.2>", " ")
	rows(t, fetch, "a FETCH 1 BODY[]", 6, "<", ">", ".", "0", "1", " ")
	rows(t, fetch, "a FETCH 1 UID", 6, " ", "(", ")", "CHANGEDSINCE", "0", "1")
	rows(t, fetch, "a FETCH 1 (BODY[]", 4, " ", "(", ")", "RFC822.SIZE", "CHANGEDSINCE ", "1", "BODY.PEEK[TEXT]", "<", ".5>", "\r\n")
}

// TestRowsOfStore: P8.1, of STORE.
func TestRowsOfStore(t *testing.T) {
	store := `a STORE ` + reSet + ` (?:\(UNCHANGEDSINCE ` + reNumber + `\) )?[+-]?FLAGS(?:\.SILENT)? ` + reFlags
	rows(t, store, "a STORE 1 ", 5, " ", "+", "-", "FLAGS", ".SILENT", "(b)", "()", ":2")
	rows(t, store, "a STORE 1 FLAGS", 6, " ", "(", ")", "b", `\Seen`, `\`, ".SILENT")
	rows(t, store, "a STORE 1 ", 6, " ", "(", ")", "(UNCHANGEDSINCE", "0", "1", "FLAGS ()")
}

var (
	leafKey  = regexp.MustCompile(`\b(?:ALL|KEYWORD b|TEXT [A-Z1]+|UID 1+|1+)\b`)
	innerKey = regexp.MustCompile(`NOT K\b|OR K K\b|\(K(?: K)*\)`)
	flatKeys = regexp.MustCompile(`^ K(?: K)*$`)
)

// rightKeys says whether keys are right, by making ever less of them.
func rightKeys(s string) bool {
	s = leafKey.ReplaceAllString(s, "K")
	for {
		less := innerKey.ReplaceAllString(s, "K")
		if less == s {
			return flatKeys.MatchString(s)
		}
		s = less
	}
}

// TestRowsOfKeys: P8.1, of SEARCH.
func TestRowsOfKeys(t *testing.T) {
	var were int
	var ask func(s string, left int)
	ask = func(s string, left int) {
		c, e := grammar.Parse("a SEARCH" + s)
		want := rightKeys(s)
		if want != (e == api.OK) || e != api.OK && e != api.ErrForm {
			t.Fatalf("Parse(%q): %d, must be right: %t", s, e, want)
		}
		if want {
			were++
			if text, e := grammar.Print(c); text != "a SEARCH"+s || e != api.OK {
				t.Fatalf("Parse(%q) is printed %q, %d", s, text, e)
			}
		}
		for _, p := range []string{" ", "(", ")", "NOT", "OR", "ALL", "1", "UID"} {
			if left > 0 {
				ask(s+p, left-1)
			}
		}
	}
	ask(" ", 5)
	ask(" OR ", 5)
	ask(" (OR NOT", 5)
	ask(" KEYWORD b OR TEXT ALL", 4)
	ask(" TEXT NOT NOT", 5)
	if were < 100 {
		t.Errorf("%d right ones", were)
	}
}

// TestRowsOfBeginnings: P8.1, tags, words and UID in all short rows: which of the errors comes first.
func TestRowsOfBeginnings(t *testing.T) {
	tagged := regexp.MustCompile(`^[!#-$&',-\[^-z|}~]+ `)
	worded := regexp.MustCompile(`^[^ ]+ (?i:NOOP|(?:UID )?COPY)(?: |$)`)
	right := regexp.MustCompile(`^[^ ]+ (?i:NOOP|(?:UID )?COPY 1+ [!#-$&'+-\[^-z|}~]+)$`)
	var ask func(s string, left int)
	ask = func(s string, left int) {
		want := api.OK
		switch {
		case !tagged.MatchString(s):
			want = api.ErrTag
		case !worded.MatchString(s):
			want = api.ErrWord
		case !right.MatchString(s):
			want = api.ErrForm
		}
		if want != api.OK {
			refuses(t, s, want)
		} else if _, e := grammar.Parse(s); e != want {
			t.Errorf("Parse(%q): %d", s, e)
		}
		if t.Failed() {
			return
		}
		for _, p := range []string{" ", "a", "UID", "NOOP", "copy", "1", "+", ")"} {
			if left > 0 {
				ask(s+p, left-1)
			}
		}
	}
	ask("", 5)
	ask("a UID", 5)
	ask("a copy", 5)
}
