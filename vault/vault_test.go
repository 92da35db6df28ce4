package vault_test

import (
	"fmt"
	"slices"
	"strings"
	"testing"

	"posthorn/api"
	"posthorn/vault"
)

// TestExamples: the chapter's.
func TestExamples(t *testing.T) {
	const abc = "\xba\x78\x16\xbf\x8f\x01\xcf\xea\x41\x41\x40\xde\x5d\xae\x22\x23\xb0\x03\x61\xa3\x96\x17\x7a\x9c\xb4\x10\xff\x61\xf2\x00\x15\xad"
	const file = "bba7816bf8f01cfea414140de5dae2223b00361a396177a9cb410ff61f20015ad"
	d := newDisk(t, 100)
	v := open(t, d)
	if digest, e := v.Put("abc"); digest != abc || e != api.OK {
		t.Errorf("%x, %d", digest, e)
	}
	lies(t, d, file, "abc")
	tells(t, v, abc, "abc", api.OK)
	tells(t, v, "x", "", api.ErrArg)
	tells(t, v, strings.Repeat("\x00", 32), "", api.ErrNone)
	d.Put(file, "abd")
	tells(t, v, abc, "", api.ErrSum)
	puts(t, v, "abc", api.OK)
	tells(t, v, abc, "abc", api.OK)
	lies(t, d, file, "abc")
}

// TestOpen: P14.1, nothing is done to the disk; nil of none.
func TestOpen(t *testing.T) {
	if v := vault.Open(nil); v != nil {
		t.Error("a vault on no disk")
	}
	d := newDisk(t, 100, "log", "x", nameOf(sum("y")), "turned")
	d.Add("log", "pending")
	for n := -1; n < 3; n++ {
		d.Fuse(n)
		was := d.Twin()
		open(t, d)
		same(t, d, was)
	}
}

// TestOnTheDisk: P14.1, nothing is kept but on the disk: what is done there is told, by each vault on it.
func TestOnTheDisk(t *testing.T) {
	d := newDisk(t, 1000)
	one, two := open(t, d), open(t, d)
	puts(t, one, "a", api.OK)
	puts(t, two, "b", api.OK)
	for _, v := range []*vault.Vault{one, two, open(t, d)} {
		gets(t, v, "a", "b")
		lists(t, v, sums("b", "a")...)
	}
	d.Drop(nameOf(sum("a")))
	d.Put(nameOf(sum("b")), "c")
	d.Put(nameOf(sum("d")), "d")
	for _, v := range []*vault.Vault{one, two, open(t, d)} {
		tells(t, v, sum("a"), "", api.ErrNone)
		tells(t, v, sum("b"), "", api.ErrSum)
		tells(t, v, sum("d"), "d", api.OK)
		lists(t, v, sums("d", "b")...)
	}
	d.Crash(0)
	gets(t, one, "a", "b")
	tells(t, one, sum("d"), "", api.ErrNone)
	keeps(t, two, sums("b"), 1, api.OK)
	tells(t, one, sum("a"), "", api.ErrNone)
	puts(t, one, "a", api.OK)
	gets(t, two, "a", "b")
}

// TestOneDiskEach: P14.1, vaults on two disks have nothing in common.
func TestOneDiskEach(t *testing.T) {
	one, d := filled(t, 1000, "a")
	two := open(t, d.Twin())
	three := open(t, newDisk(t, 1000))
	puts(t, two, "b", api.OK)
	gets(t, one, "a")
	tells(t, one, sum("b"), "", api.ErrNone)
	gets(t, two, "a", "b")
	lists(t, three)
	keeps(t, two, nil, 2, api.OK)
	gets(t, one, "a")
}

// TestPut: P14.2, bodies of all lengths at the edges, and of each byte; others stay as they are.
func TestPut(t *testing.T) {
	l := []string{"", "\x00", "\r\n", "b", nameOf(sum("b")), sum("b")}
	for _, n := range []int{2, 31, 32, 33, 55, 56, 64, 1000, 4094, 4095, 4096} {
		l = append(l, noise(n), strings.Repeat("\x00", n))
	}
	for c := range 256 {
		l = append(l, "x"+string([]byte{byte(c)}))
	}
	d := newDisk(t, api.MaxDisk, "log", "the log", "b", "x", "swept", "")
	want := d.Twin()
	v := open(t, d)
	for _, s := range l {
		puts(t, v, s, api.OK)
		want.Put(nameOf(sum(s)), s)
	}
	want.Sync()
	same(t, d, want)
	gets(t, v, l...)
	d.Crash(0)
	looks(t, d, want)
	gets(t, open(t, d), l...)
}

// TestPutLong: P14.2, more than MaxBody bytes; ahead of what the disk says; nothing is done.
func TestPutLong(t *testing.T) {
	for _, n := range []int{4097, 4098, 8192, 1 << 16, 1<<16 + 1, 1 << 20, 1<<20 + 1} {
		s := noise(n)
		v, d := filled(t, 10000, "a")
		was := d.Twin()
		for _, fuse := range []int{-1, 2, 1, 0} {
			fuses(fuse, d, was)
			puts(t, v, s, api.ErrLong)
			same(t, d, was)
		}
	}
	s := noise(5000)
	d := newDisk(t, 6000, nameOf(sum(s)), s)
	puts(t, open(t, d), s, api.ErrLong) // although it is there
}

// TestPutWrites: P14.2, it is a Put and a Sync: two calls of the disk, and nothing pending.
func TestPutWrites(t *testing.T) {
	d := newDisk(t, 1000)
	v := open(t, d)
	for i, s := range bodies(10) {
		d.Add("other", "pending")
		d.Fuse(3)
		puts(t, v, s, api.OK)
		if d.Off() || d.Pending() != 0 {
			t.Fatalf("body %d: off %t, pending %d", i, d.Off(), d.Pending())
		}
		d.Sync()
		if !d.Off() {
			t.Fatalf("body %d: only one call", i)
		}
		d.Crash(0)
		gets(t, v, s)
	}
	if s, e := d.Read("other"); s != strings.Repeat("pending", 10) || e != api.OK {
		t.Error("what was pending of others")
	}
}

// TestPutAgain: P14.2, nothing is written where the file is there: no call of the disk is counted, no room is needed.
func TestPutAgain(t *testing.T) {
	for _, s := range []string{"", "a", noise(4096)} {
		d := newDisk(t, len(s))
		v := open(t, d)
		puts(t, v, s, api.OK)
		for range 3 {
			d.Fuse(1)
			was := d.Twin()
			for range 3 {
				puts(t, v, s, api.OK)
			}
			same(t, d, was)
			if d.Off() {
				t.Error("it was written anew")
			}
			puts(t, open(t, d), s, api.OK)
			same(t, d, was)
			d.Crash(0)
		}
		d.Fuse(0)
		puts(t, v, s, api.ErrPower)
	}
}

// TestPutMends: P14.2, a file with other bytes is put anew, whichever they are; others stay.
func TestPutMends(t *testing.T) {
	for _, s := range []string{"", "a", "horn", noise(100), noise(4096)} {
		turned := []string{s + "\x00", s + s + ".", "x" + s, strings.ToUpper(s) + "!", noise(5000), sum(s)}
		if s != "" {
			turned = append(turned, "", s[1:], s[:len(s)-1])
		}
		for _, at := range []int{0, 1, 50, len(s) - 1} {
			for bit := range 8 {
				if at >= 0 && at < len(s) {
					b := []byte(s)
					b[at] ^= 1 << bit
					turned = append(turned, string(b))
				}
			}
		}
		for _, x := range turned {
			d := newDisk(t, 10000, nameOf(sum(s)), x, nameOf(sum("other")), "other", "log", "z")
			v := open(t, d)
			tells(t, v, sum(s), "", api.ErrSum)
			d.Fuse(2)
			puts(t, v, s, api.OK)
			if !d.Off() {
				t.Errorf("%.20q in place of %.20q: not a Put and a Sync", s, x)
			}
			d.Fuse(1)
			puts(t, v, s, api.OK)
			if d.Off() {
				t.Errorf("%.20q: it was written once more", s)
			}
			d.Crash(0)
			gets(t, v, s, "other")
			lies(t, d, nameOf(sum(s)), s, nameOf(sum("other")), "other", "log", "z")
		}
	}
}

// TestPutFull: P14.2, with each room up to what is needed; nothing is done where there is none.
func TestPutFull(t *testing.T) {
	for capacity := range 30 {
		for n := range 20 {
			for _, there := range []int{-1, 0, 5, 9, 20} { // bytes of a turned file that makes room
				s := noise(n)
				d := newDisk(t, 30, nameOf(sum("12345")), "12345")
				if there >= 0 {
					d.Put(nameOf(sum(s)), strings.Repeat("x", there))
				}
				d.Put("filler", strings.Repeat("f", max(30-capacity-5-max(there, 0), 0)))
				d.Sync()
				want := api.OK
				if d.Used()-max(there, 0)+n > 30 {
					want = api.ErrFull
				}
				v, was := open(t, d), d.Twin()
				puts(t, v, s, want)
				if want == api.OK {
					gets(t, v, s)
				} else {
					same(t, d, was)
				}
				gets(t, v, "12345")
			}
		}
	}
	d := newDisk(t, 0)
	puts(t, open(t, d), "", api.OK)
	puts(t, open(t, d), "x", api.ErrFull)
	lies(t, d, nameOf(sum("")), "")
}

// TestPutPower: P14.2, the power goes ahead of each call of the disk.
func TestPutPower(t *testing.T) {
	for _, there := range []string{"none", "turned"} {
		for n := range 4 {
			v, d := filled(t, 1000, "a")
			if there == "turned" {
				d.Put(nameOf(sum("b")), there)
				d.Sync()
			}
			d.Fuse(n)
			want := []api.Errno{api.ErrPower, api.ErrPower, api.OK, api.OK}[n]
			puts(t, v, "b", want)
			if d.Off() != (n <= 2) || d.Pending() != []int{0, 1, 0, 0}[n] {
				t.Errorf("%s, Fuse(%d): off %t, pending %d", there, n, d.Off(), d.Pending())
			}
			if n <= 2 {
				puts(t, v, "a", api.ErrPower)
				tells(t, v, sum("a"), "", api.ErrPower)
			}
		}
	}
	d := newDisk(t, 3)
	d.Fuse(0)
	puts(t, open(t, d), "there is no room, too", api.ErrPower)
}

// TestGetArg: P14.2, ErrArg of what isn't 32 bytes, ahead of what the disk says.
func TestGetArg(t *testing.T) {
	v, d := filled(t, 10000, "a", "")
	for _, off := range []bool{false, true} {
		for n := range 100 {
			want := api.ErrArg
			if n == 32 {
				want = api.ErrNone
				if off {
					want = api.ErrPower
				}
			}
			tells(t, v, noise(n), "", want)
			tells(t, v, strings.Repeat("a", n), "", want)
		}
		for _, digest := range []string{nameOf(sum("a")), nameOf(sum("a"))[1:], sum("a")[1:], sum("a") + "\x00", sum("a")[:31], sum("a") + sum("a"), noise(1 << 16)} {
			tells(t, v, digest, "", api.ErrArg)
		}
		d.Fuse(0)
	}
}

// TestGet: P14.2, the disk's errors, ErrSum, and bytes of all lengths.
func TestGet(t *testing.T) {
	l := []string{"", "a", "b", "\x00", noise(4095), noise(4096), noise(4097), noise(100000)}
	v, d := filled(t, 1<<20, l...)
	was := d.Twin()
	gets(t, v, l...)
	for _, s := range []string{"c", "\x01", noise(4094), strings.Repeat("\x00", 32)} {
		tells(t, v, sum(s), "", api.ErrNone)
	}
	for c := range 256 { // digests that are near
		for at := range 32 {
			b := []byte(sum("a"))
			if b[at] != byte(c) {
				b[at] = byte(c)
				tells(t, v, string(b), "", api.ErrNone)
			}
		}
	}
	same(t, d, was)
	d.Fuse(0)
	for _, s := range append(l, "c") {
		tells(t, v, sum(s), "", api.ErrPower)
	}
	d.Fuse(1)
	gets(t, v, l...)
	if d.Off() {
		t.Error("Get is counted")
	}
}

// TestGetNames: P14.2, a body lies in its file alone, in small digits.
func TestGetNames(t *testing.T) {
	name := nameOf(sum("a"))
	for _, other := range []string{strings.ToUpper(name), "b" + strings.ToUpper(name[1:]), "B" + name[1:], name[1:], name + " ", " " + name, name[:64], "c" + name[1:], sum("a"), "b" + sum("a"), "bb" + name[1:]} {
		d := newDisk(t, 1000, other, "a")
		v := open(t, d)
		tells(t, v, sum("a"), "", api.ErrNone)
		puts(t, v, "a", api.OK)
		gets(t, v, "a")
		lies(t, d, other, "a", name, "a")
	}
}

// TestTurned: P14.5, whatever lies in the files, no bytes are told but such as have the digest.
func TestTurned(t *testing.T) {
	s := noise(60)
	v, d := filled(t, 10000)
	try := func(x string) {
		t.Helper()
		d.Put(nameOf(sum(s)), x)
		if x == s {
			gets(t, v, s)
		} else {
			tells(t, v, sum(s), "", api.ErrSum)
		}
	}
	for at := range s {
		for c := range 256 {
			b := []byte(s)
			b[at] = byte(c)
			try(string(b))
		}
	}
	for n := range 61 {
		try(s[:n])
		try(s[n:])
	}
	for n := range 100 {
		try(noise(n))
		try(s + noise(n))
	}
	for at := range 32 { // a digest that is another one in one place
		b := []byte(sum(s))
		b[at] ^= 1
		d.Put(nameOf(string(b)), s)
		tells(t, v, string(b), "", api.ErrSum)
	}
	for _, a := range []string{"a", "b", ""} { // bodies under another one's digest
		for _, b := range []string{"a", "b", ""} {
			d.Put(nameOf(sum(a)), b)
			if a == b {
				gets(t, v, a)
			} else {
				tells(t, v, sum(a), "", api.ErrSum)
			}
		}
	}
}

// TestAll: P14.3, rising, whatever lies in the files, whether there is power or none.
func TestAll(t *testing.T) {
	v, d := filled(t, 1<<20)
	lists(t, v)
	var want []string
	for i := range 300 {
		digest := sum(fmt.Sprint(i))
		if i < 64 { // that rise in the last byte alone, or in the first one
			digest = strings.Repeat("\x7f", 31) + string([]byte{byte(i * 4)})
		} else if i < 128 {
			digest = string([]byte{byte(i * 4)}) + strings.Repeat("\x7f", 31)
		}
		d.Put(nameOf(digest), []string{fmt.Sprint(i), "turned", ""}[i%3])
		if want = append(want, digest); i%10 == 0 {
			slices.Sort(want)
			lists(t, v, slices.Compact(want)...)
		}
	}
	slices.Sort(want)
	want = slices.Compact(want)
	lists(t, v, want...)
	d.Fuse(1)
	was := d.Twin()
	lists(t, v, want...)
	same(t, d, was)
	d.Fuse(0)
	lists(t, v, want...)
}

// TestAllNames: P14.3, files with other names are none, with each byte in each place of a name.
func TestAllNames(t *testing.T) {
	right := "b" + strings.Repeat("0123456789abcdef", 4)
	names := []string{"b", "log", "swept", right[1:], right + "0", right + "\n", "\n" + right, " " + right, right[:64], right[:63], right[:63] + "0", "bb" + right[1:], "b" + right[1:33], strings.ToUpper(right), "B" + right[1:], right + "00", right + right[1:16], "b" + strings.Repeat("0", 64), "b" + strings.Repeat("f", 64), "b" + strings.Repeat("F", 64), "b" + strings.Repeat("0x", 32)}
	for _, blank := range []string{"  ", "\r\n", "\x00\x00", "0x", "0X", "..", "--"} {
		names = append(names, right[:63]+blank, "b"+blank+right[3:], "b"+blank+right[1:], right+blank)
	}
	for at := range right {
		for c := range 256 {
			b := []byte(right)
			b[at] = byte(c)
			names = append(names, string(b))
		}
	}
	names = slices.Compact(slices.Sorted(slices.Values(names)))
	d := newDisk(t, 0)
	v := open(t, d)
	for _, name := range names {
		d.Put(name, "")
		want := other{d}.all()
		if (len(want) == 1) != fileOf.MatchString(name) {
			t.Fatalf("%q", name)
		}
		lists(t, v, want...)
		d.Drop(name)
	}
	for _, name := range names {
		d.Put(name, "")
	}
	d.Sync()
	lists(t, v, other{d}.all()...)
	keeps(t, v, nil, len(other{d}.all()), api.OK)
	want := slices.DeleteFunc(names, fileOf.MatchString)
	if got := d.Names(); !slices.Equal(got, want) {
		t.Errorf("%d files are left, must be %d", len(got), len(want))
	}
}

// TestKeep: P14.3, each subset of bodies, of which one is turned, beside other files.
func TestKeep(t *testing.T) {
	l := bodies(5)
	for some := range 1 << 5 {
		d := newDisk(t, 1000, "log", "z", "b", "y", "swept", "", strings.ToUpper(nameOf(sum("q"))), "q", nameOf(sum("q"))[1:], "q")
		want := d.Twin()
		var kept []string
		for i, s := range l {
			x := s
			if i == 2 {
				x = "turned"
			}
			d.Put(nameOf(sum(s)), x)
			if some>>i&1 == 1 {
				kept = append(kept, sum(s))
				want.Put(nameOf(sum(s)), x)
			}
		}
		d.Sync()
		want.Sync()
		v := open(t, d)
		for n := range 3 { // once more: nothing is dropped
			dropped := 0
			if n == 0 {
				dropped = 5 - len(kept)
			}
			keeps(t, v, kept, dropped, api.OK)
			same(t, d, want)
			lists(t, v, kept...)
		}
	}
}

// TestKeepAmong: P14.3, digests that come in any order, and twice; what is none, or of no file, keeps nothing.
func TestKeepAmong(t *testing.T) {
	l := bodies(6)
	a, b, c := sum(l[1]), sum(l[3]), sum(l[4])
	none := []string{"", "x", nameOf(sum(l[0])), nameOf(sum(l[0]))[1:], strings.ToUpper(nameOf(sum(l[0]))[1:]), sum(l[0])[:31], sum(l[0]) + "\x00", sum(l[0])[1:], "\x00" + sum(l[0]), l[0], sum("none"), noise(32), noise(33)}
	for _, digests := range [][]string{
		{a, b, c}, {c, b, a}, {b, a, c}, {a, a, c, b, b, c}, append(slices.Clip(none), a, b, c), append([]string{c, a, b}, none...), append(append([]string{b}, none...), c, a, a),
	} {
		v, d := filled(t, 1000, l...)
		keeps(t, v, digests, 3, api.OK)
		lists(t, v, a, b, c)
		gets(t, v, l[1], l[3], l[4])
		if len(d.Names()) != 3 {
			t.Error(d.Names())
		}
		for _, i := range []int{0, 2, 5} {
			tells(t, v, sum(l[i]), "", api.ErrNone)
		}
	}
	v, _ := filled(t, 1000, l...)
	keeps(t, v, none, 6, api.OK)
	lists(t, v)
	v, _ = filled(t, 1000, l...)
	keeps(t, v, append(sums(l...), none...), 0, api.OK)
	gets(t, v, l...)
}

// TestKeepPower: P14.3, the power goes ahead of each call of the disk: the first ones are dropped, in order, and told.
func TestKeepPower(t *testing.T) {
	l := bodies(7)
	drop := []string{l[0], l[2], l[3], l[6]}
	kept := sums(l[1], l[4], l[5])
	for n := range 8 {
		v, d := filled(t, 1000, l...)
		want := d.Twin()
		fuses(n, d, want)
		for _, s := range drop {
			want.Drop(nameOf(sum(s)))
		}
		e := want.Sync()
		if (e == api.OK) != (n > 4) {
			t.Fatal(e)
		}
		keeps(t, v, slices.Clone(kept), min(n, 4), e)
		same(t, d, want)
		lists(t, v, sums(slices.DeleteFunc(slices.Clone(l), func(s string) bool { return slices.Contains(drop[:min(n, 4)], s) })...)...)
	}
}

// TestKeepNone: P14.3, where nothing is to be dropped no Sync is done, and no power is needed.
func TestKeepNone(t *testing.T) {
	l := bodies(3)
	for _, there := range [][]string{nil, l} {
		v, d := filled(t, 1000, there...)
		d.Put("log", "pending")
		for _, n := range []int{-1, 1, 0} {
			d.Fuse(n)
			was := d.Twin()
			keeps(t, v, sums(l...), 0, api.OK)
			keeps(t, v, append(sums(l...), "x"), 0, api.OK)
			same(t, d, was)
		}
	}
	v, d := filled(t, 1000, l...)
	d.Put("log", "pending")
	keeps(t, v, nil, 3, api.OK)
	if d.Pending() != 0 {
		t.Error("no Sync")
	}
	keeps(t, v, nil, 0, api.OK)
	keeps(t, v, []string{}, 0, api.OK)
	lies(t, d, "log", "pending")
}

// TestNil: P14.3, of a nil vault.
func TestNil(t *testing.T) {
	for _, v := range []*vault.Vault{nil, vault.Open(nil)} {
		for _, s := range []string{"", "a", noise(4096), noise(5000)} {
			puts(t, v, s, api.ErrArg)
			tells(t, v, sum(s), "", api.ErrArg)
			tells(t, v, s, "", api.ErrArg)
		}
		lists(t, v)
		keeps(t, v, nil, 0, api.ErrArg)
		keeps(t, v, sums("a", "b"), 0, api.ErrArg)
	}
}
