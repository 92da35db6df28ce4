package seal_test

import (
	"encoding/binary"
	"hash/crc32"
	"math/rand"
	"slices"
	"strings"
	"testing"

	"posthorn/api"
	"posthorn/seal"
)

// letters: of several lengths, of all bytes, the same at every run.
func letters() []string {
	var all []byte
	for b := range 256 {
		all = append(all, byte(b))
	}
	return []string{
		"a",
		"",
		"\x00",
		"\x00\x00\x00\x00\x00\x00\x00\x00",
		"123456789",
		"\xff\xff\xff\xff",
		"é, of two bytes",
		string(all),
		noise(1000),
		"\x00\x00\x00\x01\xe8\xb7\xbe\x43a", // itself a frame
	}
}

func noise(n int) string {
	b := make([]byte, n)
	rand.New(rand.NewSource(int64(n))).Read(b)
	return string(b)
}

// framed is a frame by another road: of a length and a sum that may be wrong.
func framed(length, sum uint32, body string) string {
	b := binary.BigEndian.AppendUint32(nil, length)
	b = binary.BigEndian.AppendUint32(b, sum)
	return string(b) + body
}

// right is a frame that has its right length and sum, even where the body is too long.
func right(body string) string {
	return framed(uint32(len(body)), crc32.ChecksumIEEE([]byte(body)), body)
}

// row is the frames of bodies, one behind the other.
func row(t *testing.T, bodies []string) string {
	t.Helper()
	var b strings.Builder
	for _, x := range bodies {
		f, e := seal.Frame(x)
		if e != api.OK {
			t.Fatalf("Frame of %d bytes: %d", len(x), e)
		}
		b.WriteString(f)
	}
	return b.String()
}

// gives checks what All says of s.
func gives(t *testing.T, what, s string, bodies []string, n int, e api.Errno) {
	t.Helper()
	gotBodies, gotN, gotE := seal.All(s)
	if !slices.Equal(gotBodies, bodies) || gotN != n || gotE != e {
		t.Errorf("%s: All gives %d bodies, %d bytes, %d; must give %d, %d, %d", what, len(gotBodies), gotN, gotE, len(bodies), n, e)
	}
	goesOver(t, what, s, bodies)
}

// goesOver checks that Each goes over bodies, and tells where their frames begin.
func goesOver(t *testing.T, what, s string, bodies []string) {
	t.Helper()
	var got []string
	ahead := 0
	for at, body := range seal.Each(s) {
		if at != ahead {
			t.Errorf("%s: Each tells %d ahead of a frame, must be %d", what, at, ahead)
		}
		got = append(got, body)
		ahead += 8 + len(body)
	}
	if !slices.Equal(got, bodies) {
		t.Errorf("%s: Each goes over %d bodies, must be %d", what, len(got), len(bodies))
	}
}

// refused checks that Cut answers e of s, and nothing beside it.
func refused(t *testing.T, what, s string, e api.Errno) {
	t.Helper()
	if body, n, got := seal.Cut(s); body != "" || n != 0 || got != e {
		t.Errorf("%s: Cut says %d of %d bytes, %d; must say %d of none", what, len(body), n, got, e)
	}
}

// TestSum: P2.1, the check sum.
func TestSum(t *testing.T) {
	for _, x := range []struct {
		s   string
		sum uint32
	}{
		{"", 0},
		{"a", 0xe8b7be43},
		{"123456789", 0xcbf43926},
		{"\x00", 0xd202ef8d},
		{"\xff", 0xff000000},
		{"\xff\xff\xff\xff", 0xffffffff},
	} {
		if got := seal.Sum(x.s); got != x.sum {
			t.Errorf("Sum(%q) = %08x, must be %08x", x.s, got, x.sum)
		}
	}
}

// TestSumOfAll: P2.1, by another road: of each byte, of all lengths up to 300, and of bytes beyond a frame's limit.
func TestSumOfAll(t *testing.T) {
	var l []string
	for b := range 256 {
		l = append(l, string([]byte{byte(b)}), string([]byte{'a', byte(b), 'z'}))
	}
	for n := range 300 {
		l = append(l, noise(n))
	}
	l = append(l, noise(api.MaxFrame), noise(api.MaxFrame+1), noise(3*api.MaxFrame))
	for _, s := range l {
		if got, want := seal.Sum(s), crc32.ChecksumIEEE([]byte(s)); got != want {
			t.Errorf("Sum of %d bytes = %08x, must be %08x", len(s), got, want)
		}
	}
}

// TestFrame: P2.1, a frame's bytes.
func TestFrame(t *testing.T) {
	for _, x := range []struct{ body, want string }{
		{"", "\x00\x00\x00\x00\x00\x00\x00\x00"},
		{"a", "\x00\x00\x00\x01\xe8\xb7\xbe\x43a"},
		{"123456789", "\x00\x00\x00\x09\xcb\xf4\x39\x26123456789"},
	} {
		if got, e := seal.Frame(x.body); got != x.want || e != api.OK {
			t.Errorf("Frame(%q) = %x, %d; must be %x", x.body, got, e, x.want)
		}
	}
	for _, n := range []int{2, 255, 256, 257, 0x1234, api.MaxFrame - 1, api.MaxFrame} {
		body := noise(n)
		if got, e := seal.Frame(body); got != right(body) || e != api.OK {
			t.Errorf("Frame of %d bytes: %d bytes, %d", n, len(got), e)
		}
	}
}

// TestFrameTooLong: P2.1, ErrLong, and no frame beside it.
func TestFrameTooLong(t *testing.T) {
	for _, n := range []int{api.MaxFrame + 1, api.MaxFrame + 2, 2 * api.MaxFrame, 1 << 20} {
		if got, e := seal.Frame(strings.Repeat("x", n)); got != "" || e != api.ErrLong {
			t.Errorf("Frame of %d bytes: %d bytes, %d; must be none, %d", n, len(got), e, api.ErrLong)
		}
	}
}

// TestCut: P2.2, the first frame, whatever stands behind it.
func TestCut(t *testing.T) {
	bodies := append(letters(), noise(api.MaxFrame-1), noise(api.MaxFrame))
	for _, body := range bodies {
		for _, rest := range []string{"", "\x00", "abc", right("next"), framed(1, 0, "z")} {
			got, n, e := seal.Cut(right(body) + rest)
			if got != body || n != 8+len(body) || e != api.OK {
				t.Errorf("Cut of a frame of %d bytes and %d behind: %d bytes of %d, %d", len(body), len(rest), len(got), n, e)
			}
		}
	}
}

// TestCutFaults: P2.2, what is wrong; of several things the first that the chapter names.
func TestCutFaults(t *testing.T) {
	const a = 0xe8b7be43
	for _, x := range []struct {
		what, s string
		e       api.Errno
	}{
		{"nothing", "", api.ErrShort},
		{"a byte", "\x00", api.ErrShort},
		{"seven bytes", strings.Repeat("\x00", 7), api.ErrShort},
		{"seven bytes, too great a length", "\x00\x01\x00\x01abc", api.ErrShort},
		{"seven bytes of ff", strings.Repeat("\xff", 7), api.ErrShort},
		{"a length of MaxFrame + 1 and a sum", "\x00\x01\x00\x01abcd", api.ErrLong},
		{"eight bytes of ff", strings.Repeat("\xff", 8), api.ErrLong},
		{"a length of 2^31", framed(1<<31, a, "a"), api.ErrLong},
		{"a length of 2^31 - 1", framed(1<<31-1, a, "a"), api.ErrLong},
		{"a length of 2^32 - 8", framed(1<<32-8, a, "a"), api.ErrLong},
		{"a length of 2^24 + 1", framed(1<<24+1, a, "a"), api.ErrLong},
		{"all of a frame that is too long", right(noise(api.MaxFrame + 1)), api.ErrLong},
		{"no byte of a body", framed(1, a, ""), api.ErrShort},
		{"no byte of a body, a sum of none", framed(1, 0, ""), api.ErrShort},
		{"a byte less than its body", framed(3, a, "ab"), api.ErrShort},
		{"a part that is whole by its sum", framed(2, a, "a"), api.ErrShort},
		{"a byte less than MaxFrame", framed(api.MaxFrame, a, noise(api.MaxFrame-1)), api.ErrShort},
		{"no byte of MaxFrame", framed(api.MaxFrame, a, ""), api.ErrShort},
		{"a sum of 0", framed(1, 0, "a"), api.ErrSum},
		{"a sum of ff", framed(1, 1<<32-1, "a"), api.ErrSum},
		{"a sum that was not turned at its end", framed(1, ^uint32(a), "a"), api.ErrSum},
		{"a sum with its lowest byte first", framed(1, 0x43beb7e8, "a"), api.ErrSum},
		{"a sum of no byte", framed(0, 1, ""), api.ErrSum},
		{"a sum of what stands behind too", framed(1, crc32.ChecksumIEEE([]byte("ab")), "ab"), api.ErrSum},
		{"a length that is too small", framed(1, crc32.ChecksumIEEE([]byte("ab")), "ab"), api.ErrSum},
		{"another body", framed(1, a, "b"), api.ErrSum},
		{"another body, a right frame behind", framed(1, a, "b") + right("a"), api.ErrSum},
	} {
		refused(t, x.what, x.s, x.e)
	}
}

// TestAllOfNothing: P2.3, nothing is a row of no frames.
func TestAllOfNothing(t *testing.T) {
	gives(t, "nothing", "", nil, 0, api.OK)
}

// TestAllFaults: P2.3, what is whole ahead of a fault stands beside it; what stands behind the fault is not looked at.
func TestAllFaults(t *testing.T) {
	for _, x := range []struct {
		what, s string
		e       api.Errno
	}{
		{"a byte", "\x00", api.ErrShort},
		{"seven bytes", "\xff\xff\xff\xff\xff\xff\xff", api.ErrShort},
		{"a body cut off", right("horn")[:11], api.ErrShort},
		{"too great a length", "\x00\x01\x00\x01abcd", api.ErrLong},
		{"too great a length, frames behind", "\x00\x01\x00\x01abcd" + right("b"), api.ErrLong},
		{"another sum", framed(1, 0, "a"), api.ErrSum},
		{"another sum, frames behind", framed(1, 0, "a") + right("b") + right(""), api.ErrSum},
	} {
		for _, bodies := range [][]string{nil, {""}, {"a"}, {"", "", ""}, letters()} {
			ahead := row(t, bodies)
			gives(t, x.what, ahead+x.s, bodies, len(ahead), x.e)
		}
	}
}

// TestEachIsLeft: P2.3, who leaves early is not called again, and may begin anew.
func TestEachIsLeft(t *testing.T) {
	bodies := []string{"a", "", "bc", "d"}
	each := seal.Each(row(t, bodies))
	for most := 1; most <= len(bodies); most++ {
		var got []string
		each(func(_ int, body string) bool {
			got = append(got, body)
			return len(got) < most
		})
		if !slices.Equal(got, bodies[:most]) {
			t.Errorf("left behind %d: went over %q", most, got)
		}
	}
}

// TestThereAndBack: P2.4.
func TestThereAndBack(t *testing.T) {
	bodies := letters()
	bodies = append(bodies, noise(api.MaxFrame))
	for n := range len(bodies) + 1 {
		for _, l := range [][]string{bodies[:n], bodies[n:]} {
			s := row(t, l)
			gives(t, "there and back", s, l, len(s), api.OK)
		}
	}
	many := slices.Repeat([]string{"", "a", "bc"}, 1000)
	s := row(t, many)
	gives(t, "many", s, many, len(s), api.OK)
}

// TestTorn: P2.5, cut off behind each byte.
func TestTorn(t *testing.T) {
	bodies := letters()
	s := row(t, bodies)
	whole, end := 0, 0
	for n := range len(s) + 1 {
		for whole < len(bodies) && end+8+len(bodies[whole]) <= n {
			end += 8 + len(bodies[whole])
			whole++
		}
		e := api.ErrShort
		if end == n {
			e = api.OK
		}
		gives(t, "torn", s[:n], bodies[:whole], end, e)
	}
	if whole != len(bodies) {
		t.Errorf("%d of %d bodies at the end", whole, len(bodies))
	}
}

// TestTurned: P2.6, each byte behind the first four turned into each other one, whatever stands ahead of the frame and behind it.
func TestTurned(t *testing.T) {
	for _, body := range []string{"", "a", "\x00\x00", "123456789", noise(40)} {
		frame := right(body)
		for at := 4; at < len(frame); at++ {
			for by := 1; by < 256; by++ {
				b := []byte(frame)
				b[at] ^= byte(by)
				refused(t, "turned", string(b), api.ErrSum)
				gives(t, "turned within a row", right("ahead")+string(b)+right("behind"), []string{"ahead"}, 13, api.ErrSum)
			}
		}
	}
	long := []byte(right(noise(api.MaxFrame)))
	for _, at := range []int{4, 7, 8, 9, 1 << 15, len(long) - 1} {
		long[at] ^= 1
		refused(t, "turned in a long one", string(long), api.ErrSum)
		long[at] ^= 1
	}
}
