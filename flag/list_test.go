package flag_test

import (
	"math/rand"
	"regexp"
	"slices"
	"strings"
	"testing"

	"posthorn/api"
	"posthorn/flag"
)

// listed tells the list with which a text begins, by another road; how long the names are is asked elsewhere.
var listed = regexp.MustCompile(`^\((?:` + named + `(?: ` + named + `)*)?\)`)

const named = `(?:(?i:\\answered|\\flagged|\\deleted|\\seen|\\draft)|[!#-$&'+-\[^-z|}~]+)`

// parses checks what Parse says of s.
func parses(t *testing.T, s string, want []string, n int, e api.Errno) {
	t.Helper()
	if got, gotN, gotE := flag.Parse(s); !slices.Equal(got, want) || gotN != n || gotE != e {
		t.Errorf("Parse(%.100q) = %q, %d, %d; must be %q, %d, %d", s, got, gotN, gotE, want, n, e)
	} else if gotE == api.OK {
		rights(t, got, true)
	}
}

// TestPrint: P6.4, of any texts.
func TestPrint(t *testing.T) {
	for _, x := range []struct {
		l    []string
		want string
	}{
		{nil, "()"},
		{[]string{}, "()"},
		{[]string{`\Seen`}, `(\Seen)`},
		{[]string{`\Seen`, "a"}, `(\Seen a)`},
		{ofSystem(), `(\Answered \Flagged \Deleted \Seen \Draft)`},
		{[]string{"b", "A", "A", `\seen`}, `(b A A \seen)`},
		{[]string{""}, "()"},
		{[]string{"", ""}, "( )"},
		{[]string{"a b", ")", "\xff\x00"}, "(a b ) \xff\x00)"},
		{keywords(17), "(" + strings.Join(keywords(17), " ") + ")"},
	} {
		was := slices.Clone(x.l)
		if got := flag.Print(x.l); got != x.want || !slices.Equal(x.l, was) {
			t.Errorf("Print(%q) = %q, must be %q", was, got, x.want)
		}
	}
}

// TestParse: P6.4, the list with which a text begins.
func TestParse(t *testing.T) {
	for _, x := range []struct {
		s    string
		want []string
		n    int
	}{
		{`(\Seen a) x`, []string{`\Seen`, "a"}, 9},
		{"()", nil, 2},
		{"() ", nil, 2},
		{"())", nil, 2},
		{"()()", nil, 2},
		{"()a", nil, 2},
		{"(a)", []string{"a"}, 3},
		{"(a)(", []string{"a"}, 3},
		{"(a) (b)", []string{"a"}, 3},
		{"(a))", []string{"a"}, 3},
		{"(a)\x00\xff", []string{"a"}, 3},
		{`(b \DRAFT a B)`, []string{`\Draft`, "a", "b"}, 14},
		{`(\draft \seen \deleted \flagged \answered)`, ofSystem(), 42},
		{"(A a A a)" + "\r\n", []string{"a"}, 9},
		{"(NIL)", []string{"nil"}, 5},
		{"(})", []string{"}"}, 3},
		{"([)", []string{"["}, 3},
	} {
		parses(t, x.s, x.want, x.n, api.OK)
	}
}

// TestParseFaults: P6.4, texts that begin with no list.
func TestParseFaults(t *testing.T) {
	for _, s := range []string{
		"", " ", "(", ")", "a", `\Seen`, "a)", "(a", `(\Seen`, "(a ", "(a b", " ()", " (a)", "a(b)", "x()", ")(", "\x00()", "[a]", "{a}", "NIL",
		"( )", "( a)", "(a )", "( a )", "(a  b)", "(  )", "(a b )", "( a b)", "(a\tb)", "(a\n)", "(\r\n)", "(a\r\n b)", "(a(b)", "((a)", "((a))", "(())", "(a (b))",
		`(\)`, `(\Recent)`, `(\*)`, `(\Seen\Draft)`, `(\\Seen)`, `(a\Seen)`, `("a")`, "(a*)", "(%)", "(a])", "(a{)", "({1}\r\na)", "(é)", "(a\xff)", "(a\x00)", "(\x7f)",
		`(\Seen \Recent)`, `(\Recent \Seen)`, "(" + strings.Repeat("a", 33) + ")", "(" + strings.Repeat("a", 1<<20) + ")", "(" + strings.Repeat("a ", 1<<20),
		"(" + strings.Repeat(" ", 1<<20) + ")", "(" + strings.Repeat("(", 1<<20) + ")", strings.Repeat(")", 100),
	} {
		parses(t, s, nil, 0, api.ErrForm)
	}
}

// TestParseOfEachByte: P6.4, in the place of a bracket, of a blank, of a name, of a name's byte.
func TestParseOfEachByte(t *testing.T) {
	for b := range 256 {
		s := string([]byte{byte(b)})
		if s != "(" {
			parses(t, s+"a)", nil, 0, api.ErrForm)
			parses(t, s, nil, 0, api.ErrForm)
		}
		parses(t, s+"(a)", nil, 0, api.ErrForm)
		parses(t, "(a)"+s, []string{"a"}, 3, api.OK)
		parses(t, "()"+s, nil, 2, api.OK)
		switch {
		case s == ")":
			parses(t, "("+s+")", nil, 2, api.OK)
			parses(t, "(a"+s, []string{"a"}, 3, api.OK)
			parses(t, "(a"+s+"b)", []string{"a"}, 3, api.OK)
			continue
		case s == " ":
			parses(t, "(a"+s+"b)", []string{"a", "b"}, 5, api.OK)
			parses(t, "("+s+")", nil, 0, api.ErrForm)
		case isKept(b):
			parses(t, "("+s+")", []string{s}, 3, api.OK)
			parses(t, "(a"+s+"b)", []string{"a" + s + "b"}, 5, api.OK)
		case isGreat(b):
			parses(t, "("+s+")", []string{strings.ToLower(s)}, 3, api.OK)
			parses(t, "(a"+s+"b)", []string{"a" + strings.ToLower(s) + "b"}, 5, api.OK)
		default:
			parses(t, "("+s+")", nil, 0, api.ErrForm)
			parses(t, "(a"+s+"b)", nil, 0, api.ErrForm)
		}
		parses(t, "(a"+s, nil, 0, api.ErrForm)
	}
}

// TestParseOfShortRows: P6.4, of all short rows of some parts, by another road.
func TestParseOfShortRows(t *testing.T) {
	parts := []string{"(", ")", " ", "a", "B", `\`, "seen", "\x00"}
	var ask func(s string, left int)
	ask = func(s string, left int) {
		if list := listed.FindString(s); list == "" {
			parses(t, s, nil, 0, api.ErrForm)
		} else {
			want, _ := flag.Make(strings.Fields(list[1 : len(list)-1])...)
			parses(t, s, want, len(list), api.OK)
		}
		for _, p := range parts {
			if left > 0 {
				ask(s+p, left-1)
			}
		}
	}
	ask("", 3)
	ask("(", 5)
}

// TestParseBound: P6.4, Make's errors beside 0, of lists alone.
func TestParseBound(t *testing.T) {
	for n := range 40 {
		l := keywords(n)
		s := "(" + strings.Join(l, " ") + ")"
		if n <= 16 {
			parses(t, s, l, len(s), api.OK)
		} else {
			parses(t, s, nil, 0, api.ErrFull)
			parses(t, s+" x", nil, 0, api.ErrFull)
		}
		if n > 0 {
			twice := "(" + strings.Join(append(slices.Clone(l), l...), " ") + ")"
			if n <= 16 {
				parses(t, twice, l, len(twice), api.OK)
			} else {
				parses(t, twice, nil, 0, api.ErrFull)
			}
			for _, bad := range []string{` \Recent)`, " a b ", " )", "  a)", " *)", ""} {
				parses(t, s[:len(s)-1]+bad, nil, 0, api.ErrForm)
			}
			parses(t, `(\Recent `+s[1:], nil, 0, api.ErrForm)
			parses(t, "( "+s[1:], nil, 0, api.ErrForm)
		}
	}
	for _, name := range []string{strings.Repeat("x", 32), `\Answered`} {
		s := "(" + strings.Repeat(name+" ", 16) + name + ")"
		parses(t, s, []string{name}, len(s), api.OK)
		s = "(" + strings.Repeat(name+" ", 1<<16) + name + ")"
		parses(t, s, []string{name}, len(s), api.OK)
	}
	parses(t, "("+strings.Join(keywords(1<<16), " ")+")", nil, 0, api.ErrFull)
}

// TestThereAndBack: P6.7, whatever stands behind; cut off, none of it is left.
func TestThereAndBack(t *testing.T) {
	dice := rand.New(rand.NewSource(7))
	sets := [][]string{nil, ofSystem(), keywords(16), {strings.Repeat("~", 32)}}
	for range 1000 {
		if l := among(dice.Uint32() & dice.Uint32() & (1<<24 - 1)); len(l) <= 16 {
			sets = append(sets, l)
		}
	}
	for _, l := range sets {
		s := flag.Print(l)
		for _, behind := range []string{"", ")", "(", " ", " x", "a", "\r\n", "\x00", "\xff", `\`, s, strings.Repeat(")", 100)} {
			parses(t, s+behind, l, len(s), api.OK)
		}
		for n := range len(s) {
			parses(t, s[:n], nil, 0, api.ErrForm)
		}
	}
}
