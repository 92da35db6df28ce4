package lines_test

import (
	"math/rand"
	"strings"
	"testing"
	"unsafe"

	"posthorn/lines"
)

// rounds is bytes that meet all that may be heard, but for HeardLong; each byte tells where it stands.
const rounds = "a NOOP\r\nb X {3}\r\nx\r\n y {12}\r\n{3}\r\n{5000}\r\r\n\r\n{4097}\r\n{0}\r\n{007}\r\n\n\r{2}\r\n\r\n{5000}\r\nz\r\n"

// TestNew: P7.2, nothing was fed yet; each is one of its own.
func TestNew(t *testing.T) {
	a, b := lines.New(), lines.New()
	stands(t, a, 0, 0, false)
	hears(t, a, "a {3}"+crlf+"x", goOn())
	stands(t, a, 2, 8, false)
	stands(t, b, 0, 0, false)
	hears(t, b, strings.Repeat("x", 1000), long())
	stands(t, a, 2, 8, false)
	stands(t, lines.New(), 0, 0, false)
}

// TestFeedNothing: P7.2, the empty text changes nothing.
func TestFeedNothing(t *testing.T) {
	for at := range len(rounds) + 1 {
		f := lines.New()
		f.Feed(rounds[:at])
		want := other(rounds[:at])
		for range 2 {
			hears(t, f, "")
			stands(t, f, want.waits, want.size, false)
		}
	}
}

// TestOrder: P7.2, all that is heard, in order.
func TestOrder(t *testing.T) {
	f := lines.New()
	hears(t, f, rounds+strings.Repeat("x", 1000),
		line("a NOOP"), goOn(), goOn(), line("b X {3}\r\nx\r\n y {12}\r\n{3}\r\n{5000}\r"), line(""), big("{4097}"),
		goOn(), line("{0}\r\n{007}"), goOn(), big("\n\r{2}\r\n\r\n{5000}"), line("z"), long())
	stands(t, f, 0, 0, true)
}

// TestExamples: the chapter's.
func TestExamples(t *testing.T) {
	hears(t, lines.New(), "a NOOP"+crlf, line("a NOOP"))
	f := lines.New()
	hears(t, f, "a X {3}"+crlf, goOn())
	stands(t, f, 3, 9, false)
	hears(t, f, crlf+"b"+"!"+crlf, line("a X {3}"+crlf+crlf+"b!"))
	hears(t, f, "{5000}"+crlf, big("{5000}"))
	hears(t, f, "{007}"+crlf, line("{007}"))
	hears(t, f, strings.Repeat("x", 1000), long())
	stands(t, f, 0, 0, true)
}

// TestTwin: P7.2, a twin stands where the first does, and then both go their own ways.
func TestTwin(t *testing.T) {
	for at := range len(rounds) + 1 {
		f, want := lines.New(), other(rounds[:at])
		f.Feed(rounds[:at])
		twin := f.Twin()
		if twin == f {
			t.Fatal("a twin is the first")
		}
		stands(t, twin, want.waits, want.size, false)
		for n := 1; n < 30; n++ { // byte by byte by turns, so that each would write over the other's bytes
			f.Feed("f")
			twin.Feed("t")
			for _, x := range []struct {
				one    *lines.Feeder
				behind string
			}{{f, strings.Repeat("f", n)}, {twin, strings.Repeat("t", n)}} {
				fed := rounds[:at] + x.behind
				now, end := other(fed), other(fed+crlf)
				stands(t, x.one, now.waits, now.size, false)
				again := x.one.Twin()
				hears(t, again, crlf, end.heard[len(now.heard):]...)
				stands(t, again, end.waits, end.size, end.deaf)
				stands(t, x.one, now.waits, now.size, false)
			}
		}
	}
}

// TestTwinOfTheFirst: P7.2, what a twin hears later hangs on what was fed to it and to the first ahead of it alone.
func TestTwinOfTheFirst(t *testing.T) {
	dice := rand.New(rand.NewSource(7))
	for range 300 {
		s, x, y := stream(dice, 300), stream(dice, 300), stream(dice, 300)
		f := lines.New()
		f.Feed(s)
		twin := f.Twin()
		ahead := len(other(s).heard)
		if dice.Intn(2) == 0 {
			f, twin = twin, f
		}
		for _, z := range []struct {
			one *lines.Feeder
			fed string
		}{{f, x}, {twin, y}} {
			want := other(s + z.fed)
			hears(t, z.one, z.fed, want.heard[ahead:]...)
			stands(t, z.one, want.waits, want.size, want.deaf)
		}
	}
}

// TestNil: P7.2, of no feeder.
func TestNil(t *testing.T) {
	var f *lines.Feeder
	for range 2 {
		if f.Feed("a NOOP"+crlf) != nil || f.Feed(strings.Repeat("x", 2000)) != nil || f.Feed("") != nil {
			t.Error("a nil Feeder hears something")
		}
		if f.Waits() != 0 || f.Size() != 0 || f.Deaf() || f.Twin() != nil {
			t.Error("a nil Feeder tells something")
		}
	}
}

// TestKeepsNone: what was handed in is not kept: its memory may hold other bytes later, and what was heard stays.
func TestKeepsNone(t *testing.T) {
	for at := range len(rounds) + 1 {
		b := []byte(rounds[:at])
		f, want := lines.New(), other(rounds[:at])
		heard := f.Feed(unsafe.String(unsafe.SliceData(b), len(b)))
		clear(b)
		all := other(rounds)
		hears(t, f, rounds[at:], all.heard[len(want.heard):]...)
		f.Feed(strings.Repeat("z", 100))
		for i, h := range heard {
			if h != want.heard[i] {
				t.Errorf("%.60q became %.60q", want.heard[i].Text, h.Text)
			}
		}
	}
}
