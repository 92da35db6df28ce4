package lines_test

import (
	"fmt"
	"regexp"
	"slices"
	"strconv"
	"strings"
	"testing"

	"posthorn/api"
	"posthorn/lines"
)

const crlf = "\r\n"

// standing is what was heard of a feeder, and how it stands.
type standing struct {
	heard       []api.Heard
	waits, size int
	deaf        bool
}

// literal tells by another road the number with which a part ends.
var literal = regexp.MustCompile(`\{(0|[1-9][0-9]*)\}$`)

// other is by another road how a feeder stands behind s: it looks at all of s instead of at one byte behind the other.
func other(s string) standing {
	var l []api.Heard
	begin, at := 0, 0 // where the request begins, and its part
	for at <= len(s) {
		most := max(min(1000, 8192-(at-begin)), 1)
		part, _, ended := strings.Cut(s[at:min(at+most, len(s))], crlf)
		if !ended {
			if len(s)-at >= most {
				return standing{heard: append(l, api.Heard{Kind: 4}), deaf: true}
			}
			return standing{heard: l, size: len(s) - begin}
		}
		text := s[begin : at+len(part)]
		at += len(part) + 2
		kind := 1
		if m := literal.FindStringSubmatch(part); m != nil && (len(m[1]) < 19 || len(m[1]) == 19 && m[1] <= "9223372036854775807") {
			kind = 3
			if n, e := strconv.Atoi(m[1]); e == nil && n <= 4096 && len(text)+2+n <= 8192 {
				l = append(l, api.Heard{Kind: 2})
				at += n
				continue
			}
		}
		l = append(l, api.Heard{Kind: kind, Text: text})
		begin = at
	}
	return standing{heard: l, waits: at - len(s), size: len(s) - begin}
}

func line(text string) api.Heard { return api.Heard{Kind: api.HeardLine, Text: text} }

func big(text string) api.Heard { return api.Heard{Kind: api.HeardBig, Text: text} }

func goOn() api.Heard { return api.Heard{Kind: api.HeardGo} }

func long() api.Heard { return api.Heard{Kind: api.HeardLong} }

// told is what was heard, cut short.
func told(l []api.Heard) string {
	var b strings.Builder
	for _, h := range l[:min(len(l), 20)] {
		fmt.Fprintf(&b, "[%d %.60q]", h.Kind, h.Text)
	}
	return b.String()
}

// hears checks what f hears of s.
func hears(t *testing.T, f *lines.Feeder, s string, want ...api.Heard) {
	t.Helper()
	if got := f.Feed(s); !slices.Equal(got, want) {
		t.Errorf("of %.60q (%d bytes) is heard %s, must be %s", s, len(s), told(got), told(want))
	}
}

// stands checks how f stands.
func stands(t *testing.T, f *lines.Feeder, waits, size int, deaf bool) {
	t.Helper()
	if f == nil || f.Waits() != waits || f.Size() != size || f.Deaf() != deaf {
		t.Errorf("waits %d, size %d, deaf %t; must be %d, %d, %t", f.Waits(), f.Size(), f.Deaf(), waits, size, deaf)
	}
}

// agrees checks a new feeder that is fed s against the other road.
func agrees(t *testing.T, s string) {
	t.Helper()
	f, want := lines.New(), other(s)
	hears(t, f, s, want.heard...)
	stands(t, f, want.waits, want.size, want.deaf)
}

// full is so many bytes, 24 or more, of a request whose next part begins behind them.
func full(size int) string {
	sixes := size % 5
	return strings.Repeat("{0}"+crlf, (size-6*sixes)/5) + strings.Repeat("{1}"+crlf+"x", sixes)
}

// filled is a new feeder that was fed full.
func filled(t *testing.T, size int) *lines.Feeder {
	t.Helper()
	f := lines.New()
	f.Feed(full(size))
	stands(t, f, 0, size, false)
	return f
}

// TestLine: P7.1, parts that end with no literal's number.
func TestLine(t *testing.T) {
	for _, s := range []string{
		"a NOOP", "", " ", "x", "\r", "\n", "\r\r", "\n\r", "a\rb", "a\nb", "a\r", "a\n", "\n\n\r\r", "\x00", "\xff\xfe", "é", "a {3} b",
		"{", "}", "{}", "}{", "{3", "3}", "a 3}", "{3}}", "{3} ", "{3}x", "{3}\r", "{3}\n", "{3}\x00", "{ 3}", "{3 }", "{3 3}", "{3{}", "{3}{}", "{\r3}", "{3\n}",
		"{007}", "{03}", "{00}", "{-3}", "{-0}", "{+3}", "{3+}", "{3-}", "{3.0}", "{3e0}", "{0x3}", "{1_0}", "{1,0}", "{a}", "{３}", "{\xb3}",
		"[3]", "(3)", "{3)", "{3]", "(3}", "[3}", "<3>", "\"3\"",
		"{9223372036854775808}", "{18446744073709551616}", "{18446744073709551619}", "{36893488147419103235}", "{" + strings.Repeat("9", 500) + "}", "{" + strings.Repeat("0", 500) + "}",
	} {
		f := lines.New()
		hears(t, f, s+crlf, line(s))
		stands(t, f, 0, 0, false)
		hears(t, f, "b"+crlf, line("b")) // the next byte begins a new one
		hears(t, f, s)
		stands(t, f, 0, len(s), false)
		hears(t, f, crlf+s+crlf, line(s), line(s))
	}
}

// TestGo: P7.1, parts that end with a literal's number, and the literal behind them.
func TestGo(t *testing.T) {
	for _, n := range []int{0, 1, 2, 3, 9, 10, 42, 99, 100, 999, 1000, 1001, 4000, 4095, 4096} {
		for _, ahead := range []string{"", "a X ", "{", "{{{", "}", "{}", "{7}", "{5000}", "{3} ", "x", "\r", "\n", "\n\r", "\x00", "\xff", "{x", "\\", "{00}", "{9"} {
			f := lines.New()
			head := ahead + "{" + strconv.Itoa(n) + "}" + crlf
			hears(t, f, head, goOn())
			stands(t, f, n, len(head), false)
			body := strings.Repeat(crlf, n)[:n]
			for at := range min(n, 3) {
				hears(t, f, body[at:at+1])
				stands(t, f, n-at-1, len(head)+at+1, false)
			}
			hears(t, f, body[min(n, 3):])
			stands(t, f, 0, len(head)+n, false)
			hears(t, f, "!"+crlf, line(head+body+"!"))
			stands(t, f, 0, 0, false)
		}
	}
}

// TestBig: P7.1, numbers above 4096, and what comes behind them.
func TestBig(t *testing.T) {
	for _, n := range []string{
		"4097", "4098", "5000", "8191", "8192", "8193", "9999", "10000", "65536", "65539", "2147483647", "2147483648", "4294967295", "4294967296", "4294967299",
		"9223372036854767616", "9223372036854775000", "9223372036854775806", "9223372036854775807",
	} {
		for _, ahead := range []string{"", "a X ", "{", "{3}", "}", "{3}" + crlf + "xyz", "{1}" + crlf + "x{2}" + crlf + crlf, "{4096}" + crlf + strings.Repeat(crlf, 2048)} {
			f := lines.New()
			text := ahead + "{" + n + "}"
			f.Feed(ahead)
			hears(t, f, text[len(ahead):]+crlf, big(text))
			stands(t, f, 0, 0, false)
			hears(t, f, "x{3}"+crlf+"abcb"+crlf+text[len(ahead):]+crlf+crlf, goOn(), line("x{3}"+crlf+"abcb"), big(text[len(ahead):]), line(""))
		}
	}
	if api.MaxLiteral != 4096 || api.MaxRequest != 8192 || api.MaxLine != 1000 {
		t.Error("the limits")
	}
	if api.HeardLine != 1 || api.HeardGo != 2 || api.HeardBig != 3 || api.HeardLong != 4 {
		t.Error("the kinds")
	}
}

// TestBigBound: P7.1, the text with 0D 0A and a literal's bytes has at most 8192.
func TestBigBound(t *testing.T) {
	for _, n := range []int{0, 1, 2, 3, 9, 10, 99, 100, 999, 1000, 1001, 4095, 4096} {
		number := "{" + strconv.Itoa(n) + "}"
		for over := -3; over <= 3; over++ {
			size := 8192 + over - n - len(number) - 2
			f := filled(t, size)
			switch {
			case over <= 0:
				hears(t, f, number+crlf, goOn())
				stands(t, f, n, 8192+over-n, false)
				hears(t, f, strings.Repeat("\n", n))
				stands(t, f, 0, 8192+over, false)
			case over-n > 0: // ahead of the part's end the text has 8192 bytes
				hears(t, f, number+crlf, long())
				stands(t, f, 0, 0, true)
			default:
				hears(t, f, number+crlf, big(full(size)+number))
				stands(t, f, 0, 0, false)
				hears(t, f, "a NOOP"+crlf, line("a NOOP"))
			}
		}
	}
}

// TestLongPart: P7.1, a part has at most 1000 bytes with its 0D 0A, wherever in a request it stands.
func TestLongPart(t *testing.T) {
	for _, ahead := range []string{"", "{0}" + crlf, "{3}" + crlf + "abc", "{4096}" + crlf + strings.Repeat("y", 4096), strings.Repeat("z", 995) + "{0}" + crlf, "a" + crlf} {
		text := ahead
		if ahead == "a"+crlf {
			text = "" // of a new request
		}
		for _, c := range []string{"x", "\r", "\n", "\xff", "{", "}", "0"} {
			for n := 990; n <= 1010; n++ {
				s := strings.Repeat(c, n)
				f := lines.New()
				f.Feed(ahead)
				if n <= 998 {
					hears(t, f, s+crlf, line(text+s))
					stands(t, f, 0, 0, false)
					continue
				}
				hears(t, f, s[:min(n, 999)])
				stands(t, f, 0, len(text)+min(n, 999), false)
				hears(t, f, s[999:]+crlf, long())
				stands(t, f, 0, 0, true)
			}
		}
	}
}

// TestLongPartOfNumbers: P7.1, a part that ends with a literal's number has no more than that.
func TestLongPartOfNumbers(t *testing.T) {
	for _, number := range []string{"{0}", "{3}", "{4096}", "{4097}", "{9223372036854775807}"} {
		for n := 990; n <= 1010; n++ {
			s := strings.Repeat("x", n-len(number)) + number
			f := lines.New()
			switch {
			case n > 998:
				hears(t, f, s+crlf, long())
			case len(number) == 3 || number == "{4096}":
				hears(t, f, s+crlf, goOn())
				stands(t, f, other(number+crlf).waits, n+2, false)
			default:
				hears(t, f, s+crlf, big(s))
			}
		}
	}
}

// TestLongText: P7.1, a text has at most 8192 bytes with the 0D 0A of its part.
func TestLongText(t *testing.T) {
	for size := 7300; size <= 8192; size++ {
		if size < 8170 && size%100 != 0 {
			continue
		}
		for _, c := range []string{"x", "\r", "\n", "}"} {
			left := max(8192-size, 1) // so many bytes more, and nothing is heard any more
			f := filled(t, size)
			hears(t, f, strings.Repeat(c, left-1))
			stands(t, f, 0, size+left-1, false)
			hears(t, f, c+crlf, long())
			stands(t, f, 0, 0, true)
			for n := max(left-4, 0); n <= left+1; n++ {
				s := strings.Repeat(c, n)
				if f := filled(t, size); size+n+2 <= 8192 {
					hears(t, f, s+crlf, line(full(size)+s))
					stands(t, f, 0, 0, false)
				} else {
					hears(t, f, s+crlf, long())
					stands(t, f, 0, 0, true)
				}
			}
		}
	}
}

// TestFullText: P7.1, a literal's bytes end no part, even where with them the text has 8192: the next byte does, whichever it is.
func TestFullText(t *testing.T) {
	for b := range 256 {
		for _, n := range []int{1, 2, 4096} {
			number := "{" + strconv.Itoa(n) + "}" + crlf
			f := filled(t, 8192-n-len(number))
			hears(t, f, number, goOn())
			hears(t, f, strings.Repeat("\r", n))
			stands(t, f, 0, 8192, false)
			hears(t, f, string([]byte{byte(b)}), long())
			stands(t, f, 0, 0, true)
		}
		f := filled(t, 8187)
		hears(t, f, "{0}"+crlf, goOn())
		stands(t, f, 0, 8192, false)
		hears(t, f, string([]byte{byte(b)})+crlf+crlf, long())
	}
}

// TestDeaf: P7.1 and P7.2, who is deaf hears nothing any more, of what was fed with it and of what is fed later.
func TestDeaf(t *testing.T) {
	for _, s := range []string{strings.Repeat("x", 1000), "a NOOP" + crlf + strings.Repeat("x", 1000), full(8000) + strings.Repeat("x", 192), "{3}" + crlf + "abc" + strings.Repeat("\r", 1000)} {
		for _, behind := range []string{"", crlf, "\n", "a NOOP" + crlf, "{3}" + crlf + "abc" + crlf, "{5000}" + crlf, strings.Repeat("x", 2000), strings.Repeat(crlf, 10000)} {
			f := lines.New()
			if got := f.Feed(s + behind); len(got) == 0 || got[len(got)-1] != long() || !slices.Equal(got, other(s).heard) {
				t.Errorf("of %.50q and %.50q is heard %s", s, behind, told(got))
			}
			for range 3 {
				stands(t, f, 0, 0, true)
				stands(t, f.Twin(), 0, 0, true)
				hears(t, f, behind)
				hears(t, f.Twin(), behind)
			}
		}
	}
}

// TestLiteralsAreNoParts: P7.1, the bytes of a literal neither end a part nor stand in one.
func TestLiteralsAreNoParts(t *testing.T) {
	for _, x := range []struct{ literal, behind string }{
		{crlf, ""},
		{"\r", "\n"},
		{"{3}\r", "\n"},
		{"a NOOP" + crlf, "b NOOP"},
		{"{3}" + crlf, "xyz"},
		{"{5000}" + crlf, ""},
		{"{", "3}"},
		{"{3", "}"},
		{"{1}", ""},
		{"{300", "0}"},
		{"{500", "0}"},
		{strings.Repeat("x", 1000), strings.Repeat("y", 990)},
		{strings.Repeat(crlf, 2000), strings.Repeat("y", 990)},
		{strings.Repeat("{4096}"+crlf, 500), " "},
		{strings.Repeat("\r", 4096), "\n"},
	} {
		head := "a X {" + strconv.Itoa(len(x.literal)) + "}" + crlf
		hears(t, lines.New(), head+x.literal+x.behind+crlf, goOn(), line(head+x.literal+x.behind))
		hears(t, lines.New(), head+x.literal+x.behind+" {2}"+crlf+crlf+crlf, goOn(), goOn(), line(head+x.literal+x.behind+" {2}"+crlf+crlf))
		hears(t, lines.New(), head+x.literal+x.behind+" {4097}"+crlf+crlf, goOn(), big(head+x.literal+x.behind+" {4097}"), line(""))
	}
}

// TestEachByte: P7.1, in the place of each byte of requests, by another road.
func TestEachByte(t *testing.T) {
	for _, s := range []string{"a {3}\r\nxyz b{4}\r\nabcd\r\nc\r\n", "{4097}\r\na\r\n", "\r\n{0}\r\n\r\n{12}\r\n0123456789ab\r\n"} {
		agrees(t, s)
		for at := range len(s) {
			for b := range 256 {
				agrees(t, s[:at]+string([]byte{byte(b)})+s[at+1:])
				agrees(t, s[:at]+string([]byte{byte(b)})+s[at:])
			}
			agrees(t, s[:at])
			agrees(t, s[:at]+s[at+1:])
		}
	}
}

// TestShortRows: P7.1, of all short rows of some parts, by another road.
func TestShortRows(t *testing.T) {
	for _, parts := range [][]string{
		{"{", "}", "\r", "\n", "0", "1", "x"},
		{crlf, "{0}" + crlf, "{2}" + crlf, "{4096}" + crlf, "{4097}" + crlf, "{9}", "\r", "\n", "}"},
	} {
		var ask func(s string, left int)
		ask = func(s string, left int) {
			agrees(t, s)
			if left == 0 {
				agrees(t, s+crlf+crlf)
				return
			}
			for _, p := range parts {
				ask(s+p, left-1)
			}
		}
		ask("", 5)
		ask("{", 4)
	}
}
