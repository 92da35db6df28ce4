package pack_test

import (
	"math"
	"math/big"
	"slices"
	"strings"
	"testing"

	"posthorn/api"
	"posthorn/pack"
)

// numbers and their bytes, as P1.1 says them.
var numbers = []struct {
	n uint64
	s string
}{
	{0, "\x00"},
	{1, "\x01"},
	{127, "\x7f"},
	{128, "\x80\x01"},
	{129, "\x81\x01"},
	{255, "\xff\x01"},
	{256, "\x80\x02"},
	{300, "\xac\x02"},
	{1<<14 - 1, "\xff\x7f"},
	{1 << 14, "\x80\x80\x01"},
	{1<<32 - 1, "\xff\xff\xff\xff\x0f"},
	{1<<56 - 1, strings.Repeat("\xff", 7) + "\x7f"},
	{1 << 56, strings.Repeat("\x80", 8) + "\x01"},
	{1<<63 - 1, strings.Repeat("\xff", 8) + "\x7f"},
	{1 << 63, strings.Repeat("\x80", 9) + "\x01"},
	{1<<64 - 1, strings.Repeat("\xff", 9) + "\x01"},
}

// meets checks a reader's fault, its place, and what is left behind it.
func meets(t *testing.T, what string, r *pack.Reader, e api.Errno, at, left int) {
	t.Helper()
	gotE, gotAt := r.Fault()
	if gotE != e || gotAt != at || r.Left() != left {
		t.Errorf("%s: fault %d at %d, %d left; must be %d at %d, %d left", what, gotE, gotAt, r.Left(), e, at, left)
	}
}

// silent checks that a reader reads nothing any more and keeps its fault.
func silent(t *testing.T, what string, r *pack.Reader) {
	t.Helper()
	e, at := r.Fault()
	left := r.Left()
	if n, s, c := r.Num(), r.Text(1000), r.Count(1000); n != 0 || s != "" || c != 0 {
		t.Errorf("%s: read %d, %q, %d behind a fault", what, n, s, c)
	}
	meets(t, what+", read again", r, e, at, left)
	if got := r.End(); got != e {
		t.Errorf("%s: End %d behind the fault %d", what, got, e)
	}
	meets(t, what+", ended", r, e, at, left)
}

// refuses checks that a read of s answers nothing and meets the fault e where s begins, whatever was passed ahead of it.
func refuses(t *testing.T, what, s string, e api.Errno, nothing func(r *pack.Reader) bool) {
	t.Helper()
	for _, ahead := range []string{"", "\x05", "\x80\x01"} {
		r := pack.Open(ahead + s)
		if ahead != "" {
			r.Num()
		}
		if !nothing(r) {
			t.Errorf("%s of %x: an answer beside a fault", what, s)
		}
		meets(t, what, r, e, len(ahead), len(s))
		silent(t, what, r)
	}
}

// TestNumBytes: P1.1, of numbers.
func TestNumBytes(t *testing.T) {
	for _, x := range numbers {
		if got := pack.Num(x.n); got != x.s {
			t.Errorf("Num(%d) = %x, must be %x", x.n, got, x.s)
		}
	}
	for bits := range 64 {
		for _, n := range []uint64{1 << bits, 1<<bits - 1, 1<<bits + 1} {
			if got := pack.Num(n); got != grouped(n) {
				t.Errorf("Num(%d) = %x, must be %x", n, got, grouped(n))
			}
		}
	}
}

// grouped is a number's bytes by dividing.
func grouped(n uint64) string {
	var b []byte
	for {
		b = append(b, byte(n%128))
		if n /= 128; n == 0 {
			break
		}
		b[len(b)-1] += 128
	}
	return string(b)
}

// TestTextBytes: P1.1, of texts.
func TestTextBytes(t *testing.T) {
	for _, x := range []struct{ s, want string }{
		{"", "\x00"},
		{"ab", "\x02ab"},
		{"\x00", "\x01\x00"},
		{"\xff\x80", "\x02\xff\x80"},
		{"é", "\x02\xc3\xa9"}, // bytes are counted, not runes
		{strings.Repeat("x", 127), "\x7f" + strings.Repeat("x", 127)},
		{strings.Repeat("x", 128), "\x80\x01" + strings.Repeat("x", 128)},
		{strings.Repeat("x", 300), "\xac\x02" + strings.Repeat("x", 300)},
	} {
		if got := pack.Text(x.s); got != x.want {
			t.Errorf("Text(%q) = %x, must be %x", x.s, got, x.want)
		}
	}
}

// TestNumsBytes: P1.1, of lists, which are left as they were.
func TestNumsBytes(t *testing.T) {
	for _, x := range []struct {
		l    []uint64
		want string
	}{
		{nil, "\x00"},
		{[]uint64{}, "\x00"},
		{[]uint64{0}, "\x01\x00"},
		{[]uint64{1, 128}, "\x02\x01\x80\x01"},
		{[]uint64{300, 0, 300}, "\x03\xac\x02\x00\xac\x02"},
		{[]uint64{1<<64 - 1}, "\x01" + strings.Repeat("\xff", 9) + "\x01"},
		{make([]uint64, 128), "\x80\x01" + strings.Repeat("\x00", 128)},
	} {
		if got := pack.Nums(x.l...); got != x.want {
			t.Errorf("Nums(%d) = %x, must be %x", x.l, got, x.want)
		}
	}
	l := []uint64{9, 8, 7}
	pack.Nums(l[:2]...)
	if !slices.Equal(l, []uint64{9, 8, 7}) {
		t.Errorf("Nums changed what it was handed: %d", l)
	}
}

// TestNumReads: P1.2, what is right.
func TestNumReads(t *testing.T) {
	for _, x := range numbers {
		r := pack.Open(x.s + "\x05")
		if got := r.Num(); got != x.n {
			t.Errorf("%x: Num %d, must be %d", x.s, got, x.n)
		}
		meets(t, "a number that was passed", r, api.OK, 0, 1)
		if r.Num() != 5 || r.End() != api.OK {
			t.Errorf("%x: what stands behind it", x.s)
		}
	}
}

// TestNumFaults: P1.2, what is wrong: the first wrong thing is told.
func TestNumFaults(t *testing.T) {
	nine := strings.Repeat("\x80", 9)
	full := strings.Repeat("\xff", 9)
	for _, x := range []struct {
		s string
		e api.Errno
	}{
		{"", api.ErrShort},
		{"\x80", api.ErrShort},
		{"\xff\xff", api.ErrShort},
		{nine, api.ErrShort},
		{full, api.ErrShort},
		{"\x80\x00", api.ErrForm},
		{"\xff\x00", api.ErrForm},
		{"\x80\x00\x01", api.ErrForm},
		{"\x81\x80\x00", api.ErrForm},
		{nine[:8] + "\x00", api.ErrForm},
		{nine + "\x00", api.ErrForm},
		{nine + "\x02", api.ErrForm},
		{full + "\x02", api.ErrForm},
		{full + "\x03", api.ErrForm},
		{full + "\x7f", api.ErrForm},
		{full + "\x80", api.ErrForm},
		{full + "\x81", api.ErrForm},
		{full + "\xff", api.ErrForm},
		{full + "\x80\x01", api.ErrForm},
		{full + "\xff\xff\xff", api.ErrForm},
	} {
		refuses(t, "Num", x.s, x.e, func(r *pack.Reader) bool { return r.Num() == 0 })
	}
}

// TestTextReads: P1.3, texts that are there.
func TestTextReads(t *testing.T) {
	long := strings.Repeat("x", 300)
	for _, x := range []struct {
		s    string
		most int
		want string
	}{
		{"\x00", 0, ""},
		{"\x00", 7, ""},
		{"\x00", -1, ""},
		{"\x00", math.MinInt, ""},
		{"\x01a", 1, "a"},
		{"\x02ab", 2, "ab"},
		{"\x02ab", 3, "ab"},
		{"\x02ab", math.MaxInt, "ab"},
		{"\x02\xff\x00", 2, "\xff\x00"},
		{"\xac\x02" + long, 300, long},
	} {
		r := pack.Open(x.s + "\x05")
		if got := r.Text(x.most); got != x.want {
			t.Errorf("%x: Text(%d) = %q, must be %q", x.s, x.most, got, x.want)
		}
		meets(t, "a text that was passed", r, api.OK, 0, 1)
		if r.Num() != 5 || r.End() != api.OK {
			t.Errorf("%x: what stands behind it", x.s)
		}
	}
}

// TestTextFaults: P1.3, texts that may not be: the number's fault first, then what is too long, then what is too short.
func TestTextFaults(t *testing.T) {
	full := strings.Repeat("\xff", 9)
	for _, x := range []struct {
		s    string
		most int
		e    api.Errno
	}{
		{"", 5, api.ErrShort},
		{"\x80", 5, api.ErrShort},
		{"\x82", 1, api.ErrShort},
		{"\x80\x00", 5, api.ErrForm},
		{"\x82\x00ab", 1, api.ErrForm},
		{full + "\xff", 0, api.ErrForm},
		{"\x02ab", 1, api.ErrLong},
		{"\x02ab", 0, api.ErrLong},
		{"\x01a", -1, api.ErrLong},
		{"\x02ab", -2, api.ErrLong},
		{"\x02ab", math.MinInt, api.ErrLong},
		{"\x05a", 4, api.ErrLong}, // too short besides
		{full + "\x01", math.MaxInt, api.ErrLong},
		{strings.Repeat("\x80", 9) + "\x01", math.MaxInt, api.ErrLong},
		{"\x01", 1, api.ErrShort},
		{"\x03ab", 3, api.ErrShort},
		{"\x05a", 5, api.ErrShort},
		{"\x80\x01ab", 1000, api.ErrShort},
		{full[:8] + "\x7f" + "ab", math.MaxInt, api.ErrShort},
	} {
		refuses(t, "Text", x.s, x.e, func(r *pack.Reader) bool { return r.Text(x.most) == "" })
	}
}

// TestCountReads: P1.3, numbers that say how many.
func TestCountReads(t *testing.T) {
	for _, x := range []struct {
		s    string
		most int
		want int
	}{
		{"\x00", 0, 0},
		{"\x00", -1, 0},
		{"\x00", math.MinInt, 0},
		{"\x05", 5, 5},
		{"\x05", 6, 5},
		{"\xac\x02", 300, 300}, // what is left doesn't matter
		{strings.Repeat("\xff", 8) + "\x7f", math.MaxInt, math.MaxInt},
	} {
		r := pack.Open(x.s + "\x07")
		if got := r.Count(x.most); got != x.want {
			t.Errorf("%x: Count(%d) = %d, must be %d", x.s, x.most, got, x.want)
		}
		meets(t, "a count that was passed", r, api.OK, 0, 1)
		if r.Num() != 7 || r.End() != api.OK {
			t.Errorf("%x: what stands behind it", x.s)
		}
	}
}

// TestCountFaults: P1.3, counts that may not be.
func TestCountFaults(t *testing.T) {
	full := strings.Repeat("\xff", 9)
	for _, x := range []struct {
		s    string
		most int
		e    api.Errno
	}{
		{"", 5, api.ErrShort},
		{"\x86", 5, api.ErrShort},
		{"\x86\x00", 5, api.ErrForm},
		{full + "\xff", 0, api.ErrForm},
		{"\x01", 0, api.ErrLong},
		{"\x06", 5, api.ErrLong},
		{"\x01", -1, api.ErrLong},
		{"\x01", math.MinInt, api.ErrLong},
		{"\x80\x01", 127, api.ErrLong},
		{full + "\x01", 5, api.ErrLong},
		{full + "\x01", math.MaxInt, api.ErrLong},
		{strings.Repeat("\x80", 9) + "\x01", math.MaxInt, api.ErrLong},
	} {
		refuses(t, "Count", x.s, x.e, func(r *pack.Reader) bool { return r.Count(x.most) == 0 })
	}
}

// TestFirstFaultStays: P1.4, bytes that would be right are not read behind a fault.
func TestFirstFaultStays(t *testing.T) {
	for what, fail := range map[string]func(r *pack.Reader){
		"too long a text":  func(r *pack.Reader) { r.Text(1) },
		"too great a many": func(r *pack.Reader) { r.Count(1) },
	} {
		r := pack.Open("\x01\x02ab\x01a")
		r.Num()
		fail(r)
		meets(t, what, r, api.ErrLong, 1, 5)
		silent(t, what, r)
	}
}

// TestEnd: P1.4, bytes that are left are a fault; a fault that was there stays.
func TestEnd(t *testing.T) {
	r := pack.Open("\x05\x06")
	if r.Num() != 5 || r.End() != api.ErrRest {
		t.Error("End ahead of a byte")
	}
	meets(t, "bytes that are left", r, api.ErrRest, 1, 1)
	silent(t, "bytes that are left", r)

	r = pack.Open("abc")
	if r.End() != api.ErrRest {
		t.Error("End ahead of all")
	}
	meets(t, "all is left", r, api.ErrRest, 0, 3)
	silent(t, "all is left", r)

	r = pack.Open("\x05\x80\x00\x07")
	r.Num()
	r.Num()
	if r.End() != api.ErrForm {
		t.Error("End behind a fault tells the fault")
	}
	meets(t, "End behind a fault", r, api.ErrForm, 1, 3)

	r = pack.Open("")
	if r.End() != api.OK {
		t.Error("End of nothing")
	}
	meets(t, "End of nothing", r, api.OK, 0, 0)
}

// TestEndIsNoFault: P1.4, OK changes nothing; a read behind it meets the end of the bytes.
func TestEndIsNoFault(t *testing.T) {
	r := pack.Open("\x05")
	r.Num()
	for range 2 {
		if r.End() != api.OK {
			t.Error("End behind all")
		}
		meets(t, "End behind all", r, api.OK, 0, 0)
	}
	if r.Num() != 0 {
		t.Error("a number behind all")
	}
	meets(t, "a number behind all", r, api.ErrShort, 1, 0)
	silent(t, "a number behind all", r)
}

// TestLeft: P1.4, what is left is told at every place, and asking changes nothing.
func TestLeft(t *testing.T) {
	r := pack.Open("\x80\x01\x02ab\x03")
	for _, x := range []struct {
		read func()
		left int
	}{
		{func() {}, 6},
		{func() { r.Num() }, 4},
		{func() { r.Text(2) }, 1},
		{func() { r.Count(3) }, 0},
	} {
		x.read()
		for range 2 {
			meets(t, "on the way", r, api.OK, 0, x.left)
		}
	}
}

// TestNilReader: P1.4, of no reader.
func TestNilReader(t *testing.T) {
	var r *pack.Reader
	if r.Num() != 0 || r.Text(5) != "" || r.Count(5) != 0 || r.Left() != 0 {
		t.Error("a nil reader reads something")
	}
	if r.End() != api.ErrArg {
		t.Error("End of a nil reader")
	}
	meets(t, "a nil reader", r, api.ErrArg, 0, 0)
}

// TestReadersApart: a reader hangs on nothing but its own bytes.
func TestReadersApart(t *testing.T) {
	s := "\x01\x02\x03"
	a, b := pack.Open(s), pack.Open(s)
	if a.Num() != 1 || a.Num() != 2 || b.Num() != 1 || a.Text(0) != "" || b.Num() != 2 || b.Num() != 3 {
		t.Error("two readers of the same bytes")
	}
	meets(t, "one that fails", a, api.ErrLong, 2, 1)
	meets(t, "one that does not", b, api.OK, 0, 0)
}

// row is what is written one behind the other: numbers each alone, numbers as
// a list, texts.
type row struct {
	nums  []uint64
	list  []uint64
	texts []string
}

var rows = []row{
	{},
	{nums: []uint64{0}},
	{list: []uint64{0}},
	{nums: []uint64{1, 127, 128, 300, 1 << 32, 1<<63 - 1, 1 << 63, 1<<64 - 1}},
	{list: []uint64{1, 127, 128, 300, 1 << 32, 1<<63 - 1, 1 << 63, 1<<64 - 1}},
	{list: make([]uint64, 130)},
	{texts: []string{""}},
	{texts: []string{"a", "", "\x00\xff\x80", strings.Repeat("y", 200)}},
	{nums: []uint64{5, 1 << 20}, list: []uint64{7, 0}, texts: []string{"horn", "INBOX"}},
}

func (x row) write() string {
	var b strings.Builder
	for _, n := range x.nums {
		b.WriteString(pack.Num(n))
	}
	b.WriteString(pack.Nums(x.list...))
	for _, s := range x.texts {
		b.WriteString(pack.Text(s))
	}
	return b.String()
}

// read asks for what write lays of a row of that shape, whether or not it is there.
func (x row) read(r *pack.Reader) row {
	var got row
	for range x.nums {
		got.nums = append(got.nums, r.Num())
	}
	r.Count(len(x.list))
	for range x.list {
		got.list = append(got.list, r.Num())
	}
	for _, s := range x.texts {
		got.texts = append(got.texts, r.Text(len(s)))
	}
	return got
}

func (x row) same(y row) bool {
	return slices.Equal(x.nums, y.nums) && slices.Equal(x.list, y.list) && slices.Equal(x.texts, y.texts)
}

// TestThereAndBack: P1.5, whatever stands behind.
func TestThereAndBack(t *testing.T) {
	for _, x := range rows {
		s := x.write()
		for _, behind := range []string{"", "\x00", "\x01", "\x80", "\xff\xff", s} {
			r := pack.Open(s + behind)
			if got := x.read(r); !got.same(x) {
				t.Errorf("%x: read %d, %d, %q; must be %d, %d, %q", s, got.nums, got.list, got.texts, x.nums, x.list, x.texts)
			}
			meets(t, "there and back", r, api.OK, 0, len(behind))
		}
		r := pack.Open(pack.Nums(x.list...))
		if got := r.Count(len(x.list)); got != len(x.list) {
			t.Errorf("a list of %d numbers is read as one of %d", len(x.list), got)
		}
	}
}

// TestThereAndBackAll: P1.5, of numbers around every power of two, and of texts of many lengths.
func TestThereAndBackAll(t *testing.T) {
	for bits := range 64 {
		for add := range 5 {
			n := uint64(1)<<bits + uint64(add) - 2
			r := pack.Open(pack.Num(n) + "\x80")
			if got := r.Num(); got != n || r.Left() != 1 {
				t.Errorf("Num(%d) is read as %d, %d left", n, got, r.Left())
			}
		}
	}
	for _, n := range []int{0, 1, 126, 127, 128, 129, 16383, 16384, api.MaxFrame} {
		s := strings.Repeat("\x80\x00z", n/3+1)[:n]
		r := pack.Open(pack.Text(s) + "\x80")
		if r.Text(n) != s || r.Left() != 1 {
			t.Errorf("a text of %d bytes is read as another one", n)
		}
	}
}

// model reads a number as P1.2 says it, by groups of seven digits of a great number.
func model(s string) (n uint64, size int, e api.Errno) {
	sum := new(big.Int)
	for i := 0; i < len(s); i++ {
		low := big.NewInt(int64(s[i] % 128))
		sum.Add(sum, low.Lsh(low, uint(7*i)))
		switch {
		case i == 9 && s[i] > 1:
			return 0, 0, api.ErrForm
		case s[i] < 128 && s[i] == 0 && i > 0:
			return 0, 0, api.ErrForm
		case s[i] < 128:
			return sum.Uint64(), i + 1, api.OK
		}
	}
	return 0, 0, api.ErrShort
}

// held holds a reading of s against the model, and what was read, written anew, against s.
func held(t *testing.T, s string) {
	t.Helper()
	n, size, e := model(s)
	r := pack.Open(s)
	got := r.Num()
	if gotE, at := r.Fault(); got != n || gotE != e || at != 0 || r.Left() != len(s)-size {
		t.Fatalf("%x: read %d, fault %d at %d, %d left; must be %d, %d at 0, %d", s, got, gotE, at, r.Left(), n, e, len(s)-size)
	}
	if e == api.OK && pack.Num(got) != s[:size] {
		t.Fatalf("%x: written anew %x", s[:size], pack.Num(got))
	}
}

// TestOneForm: P1.6 (and P1.2), of numbers: all texts of up to two bytes, and many longer ones.
func TestOneForm(t *testing.T) {
	held(t, "")
	for a := range 256 {
		held(t, string([]byte{byte(a)}))
		for b := range 256 {
			held(t, string([]byte{byte(a), byte(b)}))
		}
	}
	edges := []byte{0x00, 0x01, 0x02, 0x7f, 0x80, 0x81, 0xff}
	for _, fill := range []string{"\x80", "\x81", "\xff"} {
		for long := range 12 {
			for _, a := range edges {
				for _, b := range edges {
					held(t, strings.Repeat(fill, long)+string([]byte{a, b}))
				}
			}
		}
	}
}

// TestOneFormOfTexts: P1.6, of texts and lists: what is read of any three bytes is their bytes when written anew.
func TestOneFormOfTexts(t *testing.T) {
	edges := []byte{0x00, 0x01, 0x02, 0x03, 0x7f, 0x80, 0x81, 0x82, 0xff}
	read := 0
	for _, a := range edges {
		for _, b := range edges {
			for _, c := range edges {
				s := string([]byte{a, b, c})
				r := pack.Open(s)
				text := r.Text(1000)
				if e, _ := r.Fault(); e == api.OK {
					read++
					if got := pack.Text(text); got != s[:len(s)-r.Left()] {
						t.Errorf("%x: the text %x, written anew %x", s, text, got)
					}
				}
				r = pack.Open(s)
				var l []uint64
				for range r.Count(1000) {
					l = append(l, r.Num())
				}
				if e, _ := r.Fault(); e == api.OK {
					read++
					if got := pack.Nums(l...); got != s[:len(s)-r.Left()] {
						t.Errorf("%x: the list %d, written anew %x", s, l, got)
					}
				}
			}
		}
	}
	if read == 0 {
		t.Error("nothing was read at all")
	}
}

// TestCutOff: P1.7, a reader that asks for what was written, of every beginning of it.
func TestCutOff(t *testing.T) {
	for _, x := range rows {
		s := x.write()
		for n := range len(s) {
			r := pack.Open(s[:n])
			x.read(r)
			if e, _ := r.Fault(); e != api.ErrShort || r.End() != api.ErrShort {
				t.Errorf("the first %d bytes of %x: fault %d", n, s, e)
			}
		}
	}
}
