package part_test

import (
	"strings"
	"testing"
	"time"
	"unsafe"

	"posthorn/api"
	"posthorn/part"
)

// borrowed is a text in memory that may be turned.
func borrowed(s string) ([]byte, string) {
	b := []byte(s)
	return b, unsafe.String(unsafe.SliceData(b), len(b))
}

// TestKeepsNone: what is answered has memory of its own: that of what was handed in may hold other bytes later.
func TestKeepsNone(t *testing.T) {
	for _, s := range []string{"a: b c\r\nd:e\r\n\r\nf", "a: b c\r\nd: e\r\n f\r\n\r\n", "\r\na: b", "a:b"} {
		for what, of := range map[string]func(m string) []string{
			"Split":           func(m string) []string { h, x := part.Split(m); return []string{h, x} },
			"Field":           func(m string) []string { v, _ := part.Field(m, "A"); return []string{v} },
			"Field's last":    func(m string) []string { v, _ := part.Field(m, "d"); return []string{v} },
			"Section, body":   func(m string) []string { return []string{part.Section(m, api.ItemBody)} },
			"Section, header": func(m string) []string { return []string{part.Section(m, api.ItemHeader)} },
			"Section, text":   func(m string) []string { return []string{part.Section(m, api.ItemText)} },
			"Cut":             func(m string) []string { return []string{part.Cut(m, 0, 3)} },
			"Cut's rest":      func(m string) []string { return []string{part.Cut(m, 1, 1<<63)} },
			"Cut's all":       func(m string) []string { return []string{part.Cut(m, 0, 1<<63)} },
			"Fields": func(m string) []string {
				var l []string
				for _, f := range all(m) {
					l = append(l, f.name, f.value)
				}
				return l
			},
		} {
			b, m := borrowed(s)
			got := of(m)
			was := strings.Clone(strings.Join(got, "|"))
			clear(b)
			if now := strings.Join(got, "|"); now != was {
				t.Errorf("%s of %q: %q became %q", what, s, was, now)
			}
		}
	}
}

// TestTurnsNone: what is handed in stays.
func TestTurnsNone(t *testing.T) {
	const s, x = "A: B\r\n C\r\n\r\nD", "SUBJECT"
	b, m := borrowed(s)
	c, name := borrowed(x)
	part.Split(m)
	part.Field(m, name)
	part.Holds(m, name)
	part.Section(m, api.ItemText)
	part.Cut(m, 1, 2)
	all(m)
	if string(b) != s || string(c) != x {
		t.Errorf("%q, %q", b, c)
	}
}

// TestLong: the calls end soon, whatever long text they are given: none goes over it again and again.
func TestLong(t *testing.T) {
	const n = 1 << 20
	begun := time.Now()
	goesOn := "a: b\r\n" + strings.Repeat(" c\r\n", n)
	if v, ok := part.Field(goesOn, "A"); !ok || len(v) != 1+2*n {
		t.Errorf("a field of many lines: %d bytes, %t", len(v), ok)
	}
	says(t, strings.Repeat("a: b\r\n", n)+"z: y\r\n", "Z", "y", true)
	says(t, strings.Repeat("\r", n)+": y", strings.Repeat("\r", n), "y", true)
	says(t, strings.Repeat(":\r\n", n)+"z: y", "z", "y", true)
	says(t, strings.Repeat(":", n), "", "", false)
	says(t, "a:"+strings.Repeat(" \t", n), "a", "", true)
	says(t, strings.Repeat("A", n)+":x", strings.Repeat("a", n), "x", true)
	holds(t, strings.Repeat("a", n), strings.Repeat("A", n/2)+"b", false)
	holds(t, strings.Repeat("a", n)+"B", strings.Repeat("A", n/2)+"b", true)
	holds(t, strings.Repeat("ab", n), strings.Repeat("BA", n-1)+"b", true)
	if took := time.Since(begun); took > 20*time.Second {
		t.Errorf("took %s", took)
	}
}
