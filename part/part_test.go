package part_test

import (
	"slices"
	"strings"
	"testing"

	"posthorn/api"
	"posthorn/part"
)

const crlf = "\r\n"

// pair is a field: its name and its value.
type pair struct{ name, value string }

// all is the fields of a message, as Fields goes over them.
func all(m string) []pair {
	var l []pair
	for name, value := range part.Fields(m) {
		l = append(l, pair{name, value})
	}
	return l
}

// splits checks what Split and Section say of a message, which is what its header and its text are together.
func splits(t *testing.T, header, text string) {
	t.Helper()
	m := header + text
	if h, x := part.Split(m); h != header || x != text {
		t.Errorf("Split(%.80q) = %.80q, %.80q; must be %.80q, %.80q", m, h, x, header, text)
	}
	for kind, want := range map[int]string{api.ItemBody: m, api.ItemHeader: header, api.ItemText: text} {
		if got := part.Section(m, kind); got != want {
			t.Errorf("Section(%.80q, %d) = %.80q, must be %.80q", m, kind, got, want)
		}
	}
}

// goesOver checks which fields a message has.
func goesOver(t *testing.T, m string, want []pair) {
	t.Helper()
	if got := all(m); !slices.Equal(got, want) {
		t.Errorf("Fields(%.80q): %.200q, must be %.200q", m, got, want)
	}
}

// says checks what Field says.
func says(t *testing.T, m, name, want string, ok bool) {
	t.Helper()
	if got, gotOk := part.Field(m, name); got != want || gotOk != ok {
		t.Errorf("Field(%.80q, %.50q) = %.50q, %t; must be %.50q, %t", m, name, got, gotOk, want, ok)
	}
}

// cuts checks what Cut says.
func cuts(t *testing.T, s string, from, count uint64, want string) {
	t.Helper()
	if got := part.Cut(s, from, count); got != want {
		t.Errorf("Cut(%.50q, %d, %d) = %.50q, must be %.50q", s, from, count, got, want)
	}
}

// holds checks what Holds says.
func holds(t *testing.T, s, x string, want bool) {
	t.Helper()
	if got := part.Holds(s, x); got != want {
		t.Errorf("Holds(%.50q, %.50q) = %t", s, x, got)
	}
}

// TestSplit: P10.1, and P10.3 of sections: where the header ends.
func TestSplit(t *testing.T) {
	for _, x := range []struct{ header, text string }{
		{"a: b\r\n\r\n", "c"},
		{"a: b\r\n\r\n", ""},
		{"a: b\r\nc: d\r\n\r\n", "e: f"},
		{"a\r\n\r\n", " b: c\r\n"},
		{"a\r\n\r\n", "b\r\n\r\nc"}, // the first one
		{"a\r\n\r\n", "\r\n"},
		{"a\r\n\r\n", "\r\n\r\nb"},
		{"\r\n", ""}, // begins with a line's end
		{"\r\n", "\r\n"},
		{"\r\n", "\r\n\r\n"},
		{"\r\n", "\r\nx"},
		{"\r\n", "a"},
		{"\r\n", "a: b\r\n\r\nc"},
		{"\r\n", " a: b\r\n\r\nc"},
		{"\r\n", "\n\r\n\r\n"},
		{"", ""}, // neither
		{"a", ""},
		{"a: b", ""},
		{"a: b\r\n", ""},
		{"a: b\r\nc: d\r\n", ""},
		{"a: b\r\n\r", ""},
		{"a: b\r\n\n", ""},
		{"a: b\n\nc", ""},
		{"a: b\r\rc", ""},
		{"a: b\n\r\n\rc", ""},
		{"a: b\r\n\n\r\nc", ""},
		{"a: b\r\n \r\nc", ""},
		{"a: b\r\n\t\r\nc", ""},
		{"a: b\r\n\x00\r\nc", ""},
		{"\r", ""},
		{"\n", ""},
		{"\n\r", ""},
		{"\n\n", ""},
		{" \r\n", ""},
		{"\n\r\n\r\n", "a"},
		{"\r\r\n\r\n", "a"},
		{"\r\r\n\r\n", "\r\n"},
		{" \r\n\r\n", "a"},
		{"\xff\x00\r\n\r\n", "\x00\xff"},
		{"é: ü\r\n\r\n", "ß"},
	} {
		splits(t, x.header, x.text)
	}
}

// TestSplitOfEachByte: P10.1, each byte in the place of each of the four.
func TestSplitOfEachByte(t *testing.T) {
	for at := range 4 {
		for b := range 256 {
			end := []byte("\r\n\r\n")
			same := end[at] == byte(b)
			end[at] = byte(b)
			if same {
				splits(t, "a"+string(end), "b")
				splits(t, "\r\n", "\r\nb")
			} else {
				splits(t, "a"+string(end)+"b", "")
				splits(t, "a"+string(end)+"b\r\n\r\n", "b\r\n\r\n")
			}
			if !same && at < 2 {
				splits(t, string(end)+"b", "")
			} else {
				splits(t, "\r\n", string(end[2:])+"b")
			}
		}
	}
}

// TestSplitLong: P10.1, beyond the limit of a message too.
func TestSplitLong(t *testing.T) {
	for _, n := range []int{1, 255, 256, 257, api.MaxBody - 1, api.MaxBody, api.MaxBody + 1, 1 << 20} {
		x := strings.Repeat("x", n)
		splits(t, x+"\r\n\r\n", x)
		splits(t, "\r\n", x)
		splits(t, x, "")
		splits(t, "\r\n", strings.Repeat("\r\n", n))
		splits(t, strings.Repeat("\r", n)+"\r\n\r\n", strings.Repeat("\r\n", n))
		splits(t, strings.Repeat("a\r\n", n), "")
		splits(t, strings.Repeat("a\r\n", n)+"\r\n", strings.Repeat("a\r\n", n))
	}
}

// TestSections: P10.3, of another kind there is none.
func TestSections(t *testing.T) {
	for _, m := range []string{"a: b\r\n\r\nc", "a", "\r\na", ""} {
		for kind := -20; kind < 300; kind++ {
			h, x := part.Split(m)
			want := map[int]string{api.ItemBody: m, api.ItemHeader: h, api.ItemText: x}[kind]
			if got := part.Section(m, kind); got != want {
				t.Errorf("Section(%q, %d) = %q, must be %q", m, kind, got, want)
			}
		}
		for _, kind := range []int{1<<32 + api.ItemBody, 1<<32 + api.ItemHeader, 1<<63 - 1, -1 << 63, -api.ItemBody} {
			if got := part.Section(m, kind); got != "" {
				t.Errorf("Section(%q, %d) = %q", m, kind, got)
			}
		}
	}
}

// TestFields: P10.2, what a field is, its name and its value.
func TestFields(t *testing.T) {
	for m, want := range map[string][]pair{
		"Subject: x\r\n y\r\nTo:z":         {{"Subject", "x y"}, {"To", "z"}},
		"a: b\r\n\r\nc: d":                 {{"a", "b"}}, // of the header alone
		"a: b\r\n\r\n c":                   {{"a", "b"}},
		"\r\na: b":                         nil,
		"\r\na: b\r\n\r\n":                 nil,
		"\r\n\r\na: b\r\n\r\n":             nil,
		"":                                 nil,
		"\r\n":                             nil,
		"\r\n\r\n":                         nil,
		"a: b":                             {{"a", "b"}}, // without a line's end
		"a: b\r\n":                         {{"a", "b"}},
		"a: b\r\nc: d":                     {{"a", "b"}, {"c", "d"}},
		"b: 1\r\na: 2\r\nB: 3\r\nb: 1\r\n": {{"b", "1"}, {"a", "2"}, {"B", "3"}, {"b", "1"}}, // in order, each as it stands
		// colons
		"a":                        nil,
		"a b":                      nil,
		":":                        nil,
		": b":                      nil,
		"::":                       nil,
		":a: b":                    nil,
		"a:":                       {{"a", ""}},
		"a::":                      {{"a", ":"}},
		"a: b: c":                  {{"a", "b: c"}},
		"a:b:c":                    {{"a", "b:c"}},
		"a\r\nb: c\r\n: d\r\ne: f": {{"b", "c"}, {"e", "f"}},
		"a: b\r\nc\r\nd: e":        {{"a", "b"}, {"d", "e"}},
		// names as they stand, blanks too
		"a b: c":     {{"a b", "c"}},
		"a : c":      {{"a ", "c"}},
		"a\t: c":     {{"a\t", "c"}},
		" a: c":      {{" a", "c"}},
		"\ta: c":     {{"\ta", "c"}},
		" : c":       {{" ", "c"}},
		"\t:":        {{"\t", ""}},
		"\x00: c":    {{"\x00", "c"}},
		"\xff\xfe:é": {{"\xff\xfe", "é"}},
		"\r: c":      {{"\r", "c"}},
		"\n: c":      {{"\n", "c"}},
		// values without blanks and tabs at both ends, and nothing else
		"a:  b  ":           {{"a", "b"}},
		"a:\tb\t":           {{"a", "b"}},
		"a: \t \tb\t \t ":   {{"a", "b"}},
		"a: b  c\td ":       {{"a", "b  c\td"}},
		"a: ":               {{"a", ""}},
		"a: \t\t ":          {{"a", ""}},
		"a: \rb\r":          {{"a", "\rb\r"}},
		"a: \nb\n ":         {{"a", "\nb\n"}},
		"a:\x00\v\f\u00a0":  {{"a", "\x00\v\f\u00a0"}},
		"a:\xa0\x85 \xa0":   {{"a", "\xa0\x85 \xa0"}},
		"a: \u2003b\u2003 ": {{"a", "\u2003b\u2003"}},
		// lines that go on
		"a: b\r\n c":                     {{"a", "b c"}},
		"a: b\r\n\tc":                    {{"a", "b\tc"}},
		"a: b \r\n  c ":                  {{"a", "b   c"}},
		"a: b\r\n c\r\n d\r\n\te\r\nf:g": {{"a", "b c d\te"}, {"f", "g"}},
		"a:\r\n b":                       {{"a", "b"}},
		"a:\r\n \r\n\t\r\n b\r\n ":       {{"a", "b"}},
		"a: b\r\n ":                      {{"a", "b"}},
		"a: b\r\n \r\n c":                {{"a", "b  c"}},
		"a: b\r\n c: d":                  {{"a", "b c: d"}},
		"a: b\r\n :":                     {{"a", "b :"}},
		"a\r\n b: c":                     {{"a b", "c"}},
		"a\r\n :c":                       {{"a ", "c"}},
		"a\r\n b\r\n c:\r\n d\r\ne":      {{"a b c", "d"}},
		":a\r\n b: c":                    nil,
		":\r\n b: c\r\nd: e":             {{"d", "e"}},
		"a\r\n b\r\nc: d":                {{"c", "d"}},
		// a first line has none ahead
		" a: b\r\n c": {{" a", "b c"}},
		" \r\n a: b":  {{"  a", "b"}},
		" \r\na: b":   {{"a", "b"}},
		" a\r\n b":    nil,
		" \r\n\r\n a": nil,
		// line ends are both bytes
		"a: b\n c":         {{"a", "b\n c"}},
		"a: b\nc: d":       {{"a", "b\nc: d"}},
		"a: b\rc: d":       {{"a", "b\rc: d"}},
		"a: b\r\r\n\nc: d": {{"a", "b\r"}, {"\nc", "d"}},
		"a: b\n\r\nc: d":   {{"a", "b\n"}, {"c", "d"}},
		"a: b\r\n\r":       {{"a", "b"}},
		"a: b\r\n\n c:":    {{"a", "b"}, {"\n c", ""}},
		"a\r: b":           {{"a\r", "b"}},
	} {
		goesOver(t, m, want)
	}
}

// TestFieldsGoOnOfEachByte: P10.2, just a blank and a tab go on with the line ahead; each byte ahead of a colon, behind it, and around a value.
func TestFieldsGoOnOfEachByte(t *testing.T) {
	for b := range 256 {
		s := string([]byte{byte(b)})
		trimmed := strings.Trim(s, " \t")
		switch s {
		case " ", "\t":
			goesOver(t, "a: x\r\n"+s+"y: z\r\nc: d", []pair{{"a", "x" + s + "y: z"}, {"c", "d"}})
			goesOver(t, "a: x\r\n"+s, []pair{{"a", "x"}})
			goesOver(t, "a\r\n"+s+":x", []pair{{"a" + s, "x"}})
		case ":":
			goesOver(t, "a: x\r\n"+s+"y: z\r\nc: d", []pair{{"a", "x"}, {"c", "d"}})
		default:
			goesOver(t, "a: x\r\n"+s+"y: z\r\nc: d", []pair{{"a", "x"}, {s + "y", "z"}, {"c", "d"}})
			goesOver(t, "a: x\r\n"+s, []pair{{"a", "x"}})
			goesOver(t, "a\r\n"+s+":x", []pair{{s, "x"}})
		}
		goesOver(t, "a: x\r\ny"+s+"z: z\r\n\r\n", map[bool][]pair{false: {{"a", "x"}, {"y" + s + "z", "z"}}, true: {{"a", "x"}, {"y", "z: z"}}}[s == ":"])
		goesOver(t, "a:"+s, []pair{{"a", trimmed}})
		goesOver(t, "a:"+s+"x"+s, []pair{{"a", trimmed + "x" + trimmed}})
		goesOver(t, "a: "+s+" x "+s+" ", []pair{{"a", strings.Trim(s+" x "+s, " \t")}})
		goesOver(t, "a:x"+s+"y", []pair{{"a", "x" + s + "y"}})
	}
}

// TestField: P10.2, the first one of a name.
func TestField(t *testing.T) {
	const m = "Subject: x\r\n y\r\nTo:z\r\nto: w\r\nbare\r\n: none\r\nEmpty:\r\nempty: no\r\na b : c\r\n go\r\n\r\nBehind: text"
	for name, want := range map[string]string{"SUBJECT": "x y", "subject": "x y", "Subject": "x y", "sUbJeCt": "x y", "to": "z", "To": "z", "TO": "z", "tO": "z", "Empty": "", "eMPTY": "", "a b ": "c go", "A B ": "c go"} {
		says(t, m, name, want, true)
	}
	for _, name := range []string{"", " ", ":", "Subject:", "subject ", " subject", "Subjec", "Subjects", "ubject", "x", "x y", " y", "bare", "none", "behind", "a b", "b ", "go", "T0", "t\x4f\x00", "\r\nTo", "To:z", "to:", "Subject: x", "x\x00", "\x00"} {
		says(t, m, name, "", false)
	}
	says(t, "", "", "", false)
	says(t, "", "a", "", false)
	says(t, ": a", "", "", false)
	says(t, "\r\n\r\n", "", "", false)
	says(t, "\r\na: b", "a", "", false)
	says(t, " a: b", "a", "", false)
	says(t, " a: b", " A", "b", true)
	says(t, "x\r\n Y: b", "X y", "b", true)
	says(t, "a: B c D", "A", "B c D", true) // the value's letters stay
	says(t, "a:\r\na: x", "a", "", true)
}

// TestFieldOfLetters: P10.2, each byte asked for by each byte: letters from A to Z are as those from a to z, and nothing else is as another one.
func TestFieldOfLetters(t *testing.T) {
	for b := range 256 {
		for c := range 256 {
			x, y := string([]byte{'m', byte(b)}), string([]byte{'M', byte(c)})
			same := b == c || isLetter(b) && b^c == 32
			holds(t, x, y, same)
			holds(t, "horn "+x, "N "+y, same)
			if same && b != ':' {
				says(t, x+": v", y, "v", true)
			} else {
				says(t, x+": v", y, "", false)
			}
		}
	}
	for _, l := range [][2]string{{"k", "\u212a"}, {"s", "\u017f"}, {"é", "É"}, {"ß", "SS"}, {"\xff", "\xfe"}, {"\xff", "\ufffd"}, {"i", "\u0130"}, {"i", "\u0131"}, {"ä", "Ä"}, {"σ", "ς"}, {"\xe9", "\xc9"}} {
		says(t, l[0]+": v", l[1], "", false)
		says(t, l[1]+": v", l[0], "", false)
		says(t, l[1]+": v", l[1], "v", true)
		holds(t, l[0], l[1], false)
		holds(t, l[1], l[0], false)
		holds(t, "A"+l[1]+"B", "a"+l[1]+"b", true)
	}
}

// isLetter says whether a byte is a letter, great or small.
func isLetter(b int) bool { return b >= 'A' && b <= 'Z' || b >= 'a' && b <= 'z' }

// TestFieldsAreLeft: P10.2, who leaves early is not called again, and may begin anew.
func TestFieldsAreLeft(t *testing.T) {
	for _, end := range []string{"", crlf, "\r\n\r\nh: i", "\r\n:\r\nnone"} {
		fields := part.Fields("a: 1\r\nnone\r\nb: 2\r\n 3\r\nc: 4\r\n\t\r\na: 5" + end)
		want := []pair{{"a", "1"}, {"b", "2 3"}, {"c", "4"}, {"a", "5"}}
		for most := 1; most <= len(want); most++ {
			var got []pair
			fields(func(name, value string) bool {
				got = append(got, pair{name, value})
				return len(got) < most
			})
			if !slices.Equal(got, want[:most]) {
				t.Errorf("left behind %d: went over %q", most, got)
			}
		}
		for name, value := range fields { // within itself
			var got []pair
			for n, v := range fields {
				got = append(got, pair{n, v})
			}
			if !slices.Equal(got, want) {
				t.Errorf("within %q %q: went over %q", name, value, got)
			}
		}
	}
}

// TestCut: P10.3, of all small numbers, and of great ones.
func TestCut(t *testing.T) {
	cuts(t, "hello", 1, 3, "ell")
	cuts(t, "hello", 9, 3, "")
	cuts(t, "\xff\x00é\r\n", 1, 3, "\x00é")
	cuts(t, "é", 1, 1, "\xa9") // by bytes, not by runes
	const s = "hello, horn"
	great := []uint64{1<<31 - 1, 1 << 31, 1<<32 - 1, 1 << 32, 1<<32 + 1, 1<<32 + 5, 1<<63 - 1, 1 << 63, 1<<63 + 1, 1<<64 - 12, 1<<64 - 11, 1<<64 - 10, 1<<64 - 2, 1<<64 - 1}
	for n := range uint64(len(s) + 1) {
		x := s[:n]
		for from := range uint64(len(s) + 3) {
			for count := range uint64(len(s) + 3) {
				var want []byte
				for i := range n {
					if i >= from && i-from < count {
						want = append(want, x[i])
					}
				}
				cuts(t, x, from, count, string(want))
			}
			for _, g := range great {
				cuts(t, x, from, g, x[min(from, n):])
			}
		}
		for _, g := range great {
			for _, count := range append(great, 0, 1, 5, 11, 12) {
				cuts(t, x, g, count, "")
			}
		}
	}
}

// TestHolds: P10.4, by any letters.
func TestHolds(t *testing.T) {
	for _, x := range []struct {
		s, part string
		want    bool
	}{
		{"Hello", "ELL", true},
		{"Hello", "hello", true},
		{"hELLO", "Hello", true},
		{"Hello", "", true},
		{"", "", true},
		{"", "a", false},
		{"a", "aa", false},
		{"Hello", "H", true},
		{"Hello", "O", true},
		{"Hello", "hellos", false},
		{"Hello", "helo", false},
		{"Hello", "oh", false},
		{"Hello", "hlo", false},
		{"aab", "AB", true},
		{"ababac", "abAC", true},
		{"\x00\xffA\n", "\xffa", true},
		{"a b", "A  B", false},
		{"a\r\n b", "a b", false}, // bytes as they stand
		{"a.b", "a?b", false},
		{"[", "{", false},
		{"@", "`", false},
		{"\x01", "!", false},
		{"ABCDEFGHIJKLMNOPQRSTUVWXYZ", "abcdefghijklmnopqrstuvwxyz", true},
		{"abcdefghijklmnopqrstuvwxyz", "ABCDEFGHIJKLMNOPQRSTUVWXYZ", true},
	} {
		holds(t, x.s, x.part, x.want)
	}
}
