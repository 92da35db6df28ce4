package lines_test

import (
	"math/rand"
	"runtime"
	"slices"
	"strconv"
	"strings"
	"testing"

	"posthorn/api"
	"posthorn/lines"
)

// stream is at least so many bytes of requests, of parts of them, and of what is none.
func stream(dice *rand.Rand, size int) string {
	var b strings.Builder
	for b.Len() < size {
		switch dice.Intn(12) {
		case 0:
			b.WriteString(crlf)
		case 1:
			b.WriteByte("\r\n{}0x"[dice.Intn(6)])
		case 2, 3:
			b.WriteString("{" + strconv.Itoa(dice.Intn(30)) + "}" + crlf)
		case 4:
			b.WriteString("{" + strconv.Itoa(dice.Intn(5000)) + "}" + crlf)
		case 5:
			n := dice.Intn(600)
			b.WriteString("{" + strconv.Itoa(n) + "}" + crlf + strings.Repeat(crlf, n)[:n])
		case 6:
			b.WriteString(strings.Repeat("x", dice.Intn(40)*dice.Intn(20)))
		default:
			b.WriteString("tag " + strings.Repeat("y", dice.Intn(20)) + []string{"", " ", crlf, "{3}"}[dice.Intn(4)])
		}
	}
	return b.String()
}

// inPieces checks that of s, cut at places that rise, the same is heard as of all of it, and how a feeder stands behind each piece.
func inPieces(t *testing.T, s string, places ...int) {
	t.Helper()
	f := lines.New()
	var l []api.Heard
	from := 0
	for _, to := range append(places, len(s)) {
		l = append(l, f.Feed(s[from:to])...)
		want := other(s[:to])
		if !slices.Equal(l, want.heard) {
			t.Errorf("of %.100q, cut at %d, is heard %s, must be %s", s, to, told(l), told(want.heard))
		}
		stands(t, f, want.waits, want.size, want.deaf)
		from = to
	}
	hears(t, lines.New(), s, l...)
}

// TestOneByOne: P7.3, bytes one by one.
func TestOneByOne(t *testing.T) {
	for _, s := range []string{"", rounds, rounds + rounds, rounds + strings.Repeat("x", 1000) + rounds, "{1000}" + crlf + strings.Repeat(crlf, 500) + "!" + crlf, strings.Repeat("{0}"+crlf, 300) + strings.Repeat("\r", 1001)} {
		var places []int
		for at := range len(s) {
			places = append(places, at)
		}
		inPieces(t, s, places...)
	}
}

// TestCutInThree: P7.3, cut at every two places.
func TestCutInThree(t *testing.T) {
	for a := range len(rounds) + 1 {
		for b := a; b <= len(rounds); b++ {
			inPieces(t, rounds, a, b)
		}
	}
}

// TestCutAnyhow: P7.3, of any bytes in many pieces of unlike lengths.
func TestCutAnyhow(t *testing.T) {
	dice := rand.New(rand.NewSource(73))
	for range 1500 {
		s := stream(dice, dice.Intn(4000))
		var places []int
		for at := 0; at < len(s); at += dice.Intn(1 + dice.Intn(500)) {
			places = append(places, at)
			if len(places) > 40 {
				break
			}
		}
		inPieces(t, s, places...)
	}
}

// request is a request's text, and how many literals it has.
func request(dice *rand.Rand) (string, int) {
	var s string
	n := dice.Intn(5)
	for range n {
		body := make([]byte, dice.Intn(1+dice.Intn(1500)))
		for i := range body {
			body[i] = "\r\n{}03x\xff"[dice.Intn(8)]
		}
		s += plain(dice) + "{" + strconv.Itoa(len(body)) + "}" + crlf + string(body)
	}
	return s + plain(dice) + []string{"", "!", "{", "{3", "{}", "{03}", "{3} ", "{9223372036854775808}"}[dice.Intn(8)], n
}

// plain is bytes without a line's end, of which the last one is no opening.
func plain(dice *rand.Rand) string {
	b := make([]byte, dice.Intn(1+dice.Intn(900)))
	for i := range b {
		b[i] = "\r{}03x \x00\xff"[dice.Intn(9)]
	}
	return string(b) + " "
}

// TestThereAndBack: P7.4, of requests one behind the other.
func TestThereAndBack(t *testing.T) {
	dice := rand.New(rand.NewSource(74))
	f := lines.New()
	for range 3000 {
		text, n := request(dice)
		if len(text)+2 > 8192 {
			continue
		}
		hears(t, f, text+crlf, append(slices.Repeat([]api.Heard{goOn()}, n), line(text))...)
		stands(t, f, 0, 0, false)
	}
}

// TestThereAndBackOfLiterals: P7.4, of many literals, and of great ones.
func TestThereAndBackOfLiterals(t *testing.T) {
	for n := range 1639 { // 1638 empty ones have 8190 bytes
		text := strings.Repeat("{0}"+crlf, n)
		if n%50 == 0 || n > 1630 {
			hears(t, lines.New(), text+crlf, append(slices.Repeat([]api.Heard{goOn()}, n), line(text))...)
		}
	}
	for _, n := range []int{0, 1, 4000, 4068, 4069} {
		text := "a X {4096}" + crlf + strings.Repeat("\n", 4096) + " {" + strconv.Itoa(n) + "}" + crlf + strings.Repeat("\r", n) + "!"
		hears(t, lines.New(), text+crlf, goOn(), goOn(), line(text))
	}
}

// TestBound: P7.5, no text that is heard, and none that is kept, has more than 8192 bytes, whatever is fed.
func TestBound(t *testing.T) {
	for _, of := range []string{
		"x", "\r", "\n", crlf, "{", "}", "{0}" + crlf, "{1}" + crlf, "{1}" + crlf + "x", "{4096}" + crlf, "{4095}" + crlf + "x", "{4089}" + crlf + strings.Repeat("x", 4089),
		"{999}" + crlf, "{5000}" + crlf, strings.Repeat("x", 995) + "{0}" + crlf, strings.Repeat("x", 998) + crlf, strings.Repeat("x", 999) + crlf, "{8191}" + crlf, "{0}",
	} {
		f := lines.New()
		s := strings.Repeat(of, 20000/len(of))
		for i := range len(s) {
			if f.Size() > 8192 || f.Waits() > 4096 || f.Size()+f.Waits() > 8192 {
				t.Fatalf("of %.20q: size %d, waits %d", of, f.Size(), f.Waits())
			}
			for _, h := range f.Feed(s[i : i+1]) {
				if len(h.Text) > 8190 {
					t.Fatalf("of %.20q: a text of %d bytes", of, len(h.Text))
				}
			}
		}
		agrees(t, s)
	}
}

// TestGreatest: P7.5, the greatest texts that are heard.
func TestGreatest(t *testing.T) {
	s := full(8190)
	f := lines.New()
	f.Feed(s)
	hears(t, f, crlf, line(s))
	s = full(8000) + strings.Repeat("x", 187) + "{1}"
	f.Feed(full(8000))
	hears(t, f, s[8000:], []api.Heard{}...)
	stands(t, f, 0, 8190, false)
	hears(t, f, crlf, big(s))
}

// TestKeepsLittle: P7.5, of all that was fed no more is kept, by the memory that is in use.
func TestKeepsLittle(t *testing.T) {
	inUse := func() int64 {
		var m runtime.MemStats
		runtime.GC()
		runtime.GC()
		runtime.ReadMemStats(&m)
		return int64(m.HeapAlloc)
	}
	for _, of := range []string{"a NOOP" + crlf, "{4096}" + crlf + strings.Repeat("x", 4000), "{4096}" + crlf + strings.Repeat("y", 4096) + crlf, "x", "{5000}" + crlf} {
		l := make([]*lines.Feeder, 100)
		s := strings.Repeat(of, 100000/len(of))
		before := inUse()
		for i := range l {
			l[i] = lines.New()
			l[i].Feed(s)
		}
		if more := inUse() - before; more > int64(len(l))*3*api.MaxRequest {
			t.Errorf("of %d feeders %d bytes are kept", len(l), more)
		}
		runtime.KeepAlive(l)
	}
}
