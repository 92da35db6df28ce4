package digest_test

import (
	"crypto/sha256"
	"encoding/hex"
	"math/rand"
	"strings"
	"testing"
	"unsafe"

	"posthorn/digest"
)

// blocks is more than two blocks of 64 bytes, so that every place within a block is met behind a whole one too.
const blocks = 140

// noise is n bytes, the same at every run.
func noise(n int) string {
	b := make([]byte, n)
	rand.New(rand.NewSource(int64(n))).Read(b)
	return string(b)
}

// other is a text's digest by another road.
func other(s string) string {
	sum := sha256.Sum256([]byte(s))
	return string(sum[:])
}

// written is a Hash to which pieces were written, one behind the other.
func written(pieces ...string) *digest.Hash {
	h := digest.New()
	for _, p := range pieces {
		h.Write(p)
	}
	return h
}

// stands checks that h stands behind s.
func stands(t *testing.T, what string, h *digest.Hash, s string) {
	t.Helper()
	if h == nil {
		t.Fatalf("%s: a nil Hash", what)
	}
	if h.Size() != len(s) {
		t.Errorf("%s: Size %d, must be %d", what, h.Size(), len(s))
	}
	for range 2 { // the first Sum must not be seen in the second
		if got := h.Sum(); got != other(s) {
			t.Errorf("%s: the digest %x of %d bytes, must be %x", what, got, len(s), other(s))
		}
	}
	if h.Size() != len(s) {
		t.Errorf("%s: Size %d behind Sum, must be %d", what, h.Size(), len(s))
	}
}

// TestSum: P3.1, digests that are known.
func TestSum(t *testing.T) {
	for _, x := range []struct{ s, want string }{
		{"", "e3b0c44298fc1c149afbf4c8996fb92427ae41e4649b934ca495991b7852b855"},
		{"abc", "ba7816bf8f01cfea414140de5dae2223b00361a396177a9cb410ff61f20015ad"},
		{"abcdbcdecdefdefgefghfghighijhijkijkljklmklmnlmnomnopnopq", "248d6a61d20638b8e5c026930c3e6039a33ce45964ff2167f6ecedd419db06c1"},
		{"abcdefghbcdefghicdefghijdefghijkefghijklfghijklmghijklmnhijklmnoijklmnopjklmnopqklmnopqrlmnopqrsmnopqrstnopqrstu", "cf5b16a778af8380036ce59e7b0492370b249b11e8f07a51afac45037afee9d1"},
		{strings.Repeat("a", 1000000), "cdc76e5c9914fb9281a1c7e284d73e67f1809a48a497200e046d39ccc7112cd0"},
		{"\xbd", "68325720aabd7c82f30f554b313d0570c95accbb7dc4b5aae11204c08ffe732b"},
		{strings.Repeat("\x00", 55), "02779466cdec163811d078815c633f21901413081449002f24aa3e80f0b88ef7"},
		{strings.Repeat("\x00", 56), "d4817aa5497628e7c77e6b606107042bbba3130888c5f47a375e6179be789fbb"},
		{strings.Repeat("\x00", 57), "65a16cb7861335d5ace3c60718b5052e44660726da4cd13bb745381b235a1785"},
		{strings.Repeat("\x00", 64), "f5a5fd42d16a20302798ef6ed309979b43003d2320d9f0e8ea9831a92759fb4b"},
	} {
		if got := hex.EncodeToString([]byte(digest.Sum(x.s))); got != x.want {
			t.Errorf("Sum of %d bytes = %s, must be %s", len(x.s), got, x.want)
		}
	}
}

// TestSumOfAll: P3.1, by another road: of each byte, of all lengths up to five blocks, and of long ones.
func TestSumOfAll(t *testing.T) {
	var l []string
	for b := range 256 {
		l = append(l, string([]byte{byte(b)}), "é"+string([]byte{byte(b)}))
	}
	for n := range 5*64 + 1 {
		l = append(l, noise(n), strings.Repeat("\x00", n), strings.Repeat("\xff", n), strings.Repeat("\x80", n))
	}
	for _, n := range []int{8191, 8192, 8193, 1 << 16, 1<<18 + 5} {
		l = append(l, noise(n))
	}
	for _, s := range l {
		got := digest.Sum(s)
		if len(got) != 32 || got != other(s) {
			t.Errorf("Sum of %d bytes = %x, must be %x", len(s), got, other(s))
		}
	}
}

// TestManyBits: P3.1 and P3.3, so many bytes that their bits are more than four bytes can say.
func TestManyBits(t *testing.T) {
	if testing.Short() {
		t.Skip("it takes some seconds")
	}
	piece := noise(1 << 22)
	h, want := digest.New(), sha256.New()
	for range 1<<(29-22) + 1 {
		h.Write(piece)
		want.Write([]byte(piece))
	}
	if got := h.Sum(); got != string(want.Sum(nil)) || h.Size() != 1<<29+1<<22 {
		t.Errorf("the digest %x of %d bytes, must be %x of %d", got, h.Size(), want.Sum(nil), 1<<29+1<<22)
	}
}

// TestNew: P3.3, nothing was written yet; each is one of its own.
func TestNew(t *testing.T) {
	a, b := digest.New(), digest.New()
	stands(t, "a new one", a, "")
	a.Write("horn")
	stands(t, "one that was written to", a, "horn")
	stands(t, "one beside it", b, "")
	stands(t, "one that is new behind it", digest.New(), "")
}

// TestWriteNothing: P3.3 and P3.4, the empty text is a piece that changes nothing.
func TestWriteNothing(t *testing.T) {
	for n := range blocks {
		h := written("", noise(n), "", "")
		stands(t, "nothing written", h, noise(n))
	}
}

// TestGoOn: P3.3, Sum may be asked behind each piece, and one goes on behind it.
func TestGoOn(t *testing.T) {
	s := noise(3 * blocks)
	for _, step := range []int{1, 2, 3, 7, 55, 56, 63, 64, 65, 127, 128, 129} {
		h := digest.New()
		for at := 0; at < len(s); at += step {
			end := min(at+step, len(s))
			h.Write(s[at:end])
			stands(t, "on the way", h, s[:end])
		}
	}
}

// TestTwin: P3.3, a twin stands where the first does, and then both go their own ways.
func TestTwin(t *testing.T) {
	for n := range blocks {
		for _, more := range []int{0, 1, 9, 63, 64, 65, 200} {
			s, x, y := noise(n), strings.Repeat("x", more), strings.Repeat("y", more+3)
			h := written(s)
			twin := h.Twin()
			stands(t, "a twin", twin, s)
			h.Write(x)
			stands(t, "the first, gone on", h, s+x)
			stands(t, "a twin whose first went on", twin, s)
			twin.Write(y)
			stands(t, "a twin, gone on", twin, s+y)
			stands(t, "the first, whose twin went on", h, s+x)
		}
	}
}

// TestTwins: P3.3, of many twins of one another each is one of its own.
func TestTwins(t *testing.T) {
	s := noise(3 * blocks)
	l := []*digest.Hash{digest.New()}
	for n := range len(s) {
		l = append(l, l[n].Twin())
		l[n+1].Write(s[n : n+1])
	}
	for n, h := range l {
		stands(t, "one of many twins", h, s[:n])
	}
}

// TestNil: P3.3, of no Hash.
func TestNil(t *testing.T) {
	var h *digest.Hash
	for range 2 {
		if h.Sum() != "" || h.Size() != 0 || h.Twin() != nil {
			t.Error("a nil Hash tells something")
		}
		h.Write("horn")
	}
}

// TestKeepsNone: what was handed in is not kept: its memory may hold other bytes when the next piece comes.
func TestKeepsNone(t *testing.T) {
	for n := 1; n < blocks; n++ {
		b := []byte(noise(n))
		h := digest.New()
		h.Write(unsafe.String(&b[0], n))
		twin := h.Twin()
		clear(b)
		stands(t, "its memory was used anew", h, noise(n))
		twin.Write("z")
		stands(t, "a twin, the memory of the first used anew", twin, noise(n)+"z")
	}
}

// TestCutInTwo: P3.4, cut at every place.
func TestCutInTwo(t *testing.T) {
	for _, n := range []int{0, 1, 3, 55, 56, 63, 64, 65, 119, 120, 127, 128, 129, 300} {
		s := noise(n)
		for at := range n + 1 {
			stands(t, "cut in two", written(s[:at], s[at:]), s)
		}
	}
}

// TestCutInThree: P3.4, cut at every two places.
func TestCutInThree(t *testing.T) {
	s := noise(blocks)
	for a := range len(s) + 1 {
		for b := a; b <= len(s); b++ {
			stands(t, "cut in three", written(s[:a], s[a:b], s[b:]), s)
		}
	}
}

// TestCutAnyhow: P3.4, cut into many pieces of unlike lengths.
func TestCutAnyhow(t *testing.T) {
	places := rand.New(rand.NewSource(3))
	for range 300 {
		s := noise(places.Intn(2000))
		most := 1 + places.Intn(200)
		h := digest.New()
		for rest := s; rest != ""; {
			n := min(places.Intn(most+1), len(rest))
			h.Write(rest[:n])
			rest = rest[n:]
		}
		stands(t, "cut anyhow", h, s)
		if digest.Sum(s) != h.Sum() {
			t.Errorf("%d bytes at once and piece by piece", len(s))
		}
	}
}
