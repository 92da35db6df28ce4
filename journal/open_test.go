package journal_test

import (
	"slices"
	"strings"
	"testing"

	"posthorn/api"
	"posthorn/disk"
	"posthorn/journal"
)

// full is a state of which nothing is nothing.
func full() found {
	return found{
		hard:  api.Hard{Term: 9, Vote: 5, Life: 300},
		log:   api.Log{Base: 300, BaseTerm: 7, BaseConf: []int{1, 3, 5}, L: some(7)},
		image: noise(2*4096 + 5),
	}
}

// refused checks that Open answers an error, nothing beside it, and leaves the file as it is.
func refused(t *testing.T, what, file string, want api.Errno) {
	t.Helper()
	d := newDisk(t, api.MaxDisk, file)
	for range 2 {
		if j, e := journal.Open(d); j != nil || e != want {
			t.Errorf("%s: Open: %v, %d; must be %d", what, j, e, want)
		}
		lies(t, d, file)
	}
}

// TestExample: the chapter's.
func TestExample(t *testing.T) {
	d := newDisk(t, 1000)
	j := open(t, d)
	if j.Hard() != (api.Hard{Term: 0, Vote: 0, Life: 1}) {
		t.Error(j.Hard())
	}
	a, b, c := entry(1, 1, ""), entry(1, 3, "x"), entry(2, 3, "y")
	does(t, j, add(1, a, b), api.OK)
	j = open(t, d)
	holds(t, j, found{hard: api.Hard{Life: 2}, log: api.Log{L: []api.Entry{a, b}}})
	does(t, j, add(2, c), api.OK)
	holds(t, j, found{hard: api.Hard{Life: 2}, log: api.Log{L: []api.Entry{a, c}}})
	does(t, j, add(4, c), api.ErrArg)
	holds(t, open(t, d), found{hard: api.Hard{Life: 3}, log: api.Log{L: []api.Entry{a, c}}})
}

// TestOpenOfNothing: P13.1, the file of the state that has nothing, and a life, to the byte.
func TestOpenOfNothing(t *testing.T) {
	const base, none = "\x00\x00\x00\x05\xfb\x42\xde\xad\x01\x00\x00\x00\x00", "\x00\x00\x00\x04\x33\xf1\x70\xf2\x03\x00\x00\x00"
	if base+none != row("\x01\x00\x00\x00\x00", "\x03\x00\x00\x00") {
		t.Errorf("the sums: %x", row("\x01\x00\x00\x00\x00", "\x03\x00\x00\x00"))
	}
	d := newDisk(t, 100)
	j := open(t, d)
	holds(t, j, found{hard: api.Hard{Life: 1}})
	lies(t, d, base+none+row("\x03\x00\x00\x01"))
	j = open(t, d)
	holds(t, j, found{hard: api.Hard{Life: 2}})
	lies(t, d, base+none+row("\x03\x00\x00\x01", "\x03\x00\x00\x02"))
}

// TestRecords: the records' bytes, as each call writes them.
func TestRecords(t *testing.T) {
	d := newDisk(t, 1000)
	j := open(t, d)
	want := row("\x01\x00\x00\x00\x00", "\x03\x00\x00\x00", "\x03\x00\x00\x01")
	does(t, j, save(300, 5), api.OK)
	want += row("\x03\xac\x02\x05\x01")
	lies(t, d, want)
	does(t, j, add(1, entry(128, 1, ""), entry(0, 2, "ab"), entry(1, 3, "\x00\xff")), api.OK)
	want += row("\x04\x01\x80\x01\x01\x00", "\x04\x02\x00\x02\x02ab", "\x04\x03\x01\x03\x02\x00\xff")
	lies(t, d, want)
	does(t, j, rebase(api.Log{Base: 300, BaseTerm: 128, BaseConf: []int{2, 4}, L: []api.Entry{entry(7, 2, "x")}}, "horn"), api.OK)
	want = row("\x01\xac\x02\x80\x01\x02\x02\x04\x04", "\x02\x04horn", "\x03\xac\x02\x05\x01", "\x04\xad\x02\x07\x02\x01x")
	lies(t, d, want)
	open(t, d)
	lies(t, d, want+row("\x03\xac\x02\x05\x02"))
}

// TestOpenArg: P13.1, no disk.
func TestOpenArg(t *testing.T) {
	if j, e := journal.Open(nil); j != nil || e != api.ErrArg {
		t.Errorf("Open(nil): %v, %d", j, e)
	}
}

// TestOpenLeavesOthers: P13.1, other files stand as they are, and what was pending of them lasts.
func TestOpenLeavesOthers(t *testing.T) {
	d := newDisk(t, 200)
	names := []string{"LOG", "log ", "log\x00", "lo", "a"}
	for _, name := range names {
		d.Put(name, name)
	}
	j := open(t, d)
	does(t, j, save(1, 1), api.OK)
	open(t, d)
	for _, name := range names {
		if s, e := d.Read(name); s != name || e != api.OK {
			t.Errorf("%q: %q, %d", name, s, e)
		}
	}
	if d.Pending() != 0 || len(d.Names()) != len(names)+1 {
		t.Error(d.Pending(), d.Names())
	}
}

// TestOpenReads: P13.1 and P13.2, right files.
func TestOpenReads(t *testing.T) {
	f := full()
	for what, f := range map[string]found{
		"nothing":            {},
		"all":                f,
		"an image of a byte": {hard: f.hard, image: "x"},
		"a piece less one":   {image: noise(4095)},
		"a piece":            {image: noise(4096), log: f.log},
		"a piece and one":    {image: noise(4097)},
		"two pieces":         {image: noise(8192)},
		"an image less one":  {image: noise(1<<18 - 1)},
		"the greatest image": {image: noise(1 << 18), log: f.log, hard: f.hard},
		"the greatest base":  {log: api.Log{Base: 1 << 62, BaseTerm: 1<<64 - 1, BaseConf: []int{1, 2, 3, 4, 5}, L: some(3)}},
		"the node 5":         {log: api.Log{BaseConf: []int{5}}},
		"great numbers":      {hard: api.Hard{Term: 1<<64 - 1, Vote: 5, Life: 1<<63 - 2}, log: api.Log{L: []api.Entry{entry(1<<64-1, 3, noise(2048)), entry(0, 1, "")}}},
		"more than MaxLog":   {log: api.Log{Base: 1, L: some(3000)}},
		"terms that fall":    {hard: api.Hard{Term: 1}, log: api.Log{BaseTerm: 9, L: []api.Entry{entry(5, 1, ""), entry(3, 2, "no members")}}},
	} {
		d := newDisk(t, api.MaxDisk, row(f.bodies()...))
		j, _, e := agreesOpen(t, d)
		if e != api.OK {
			t.Fatalf("%s: %d", what, e)
		}
		holds(t, j, f.later())
		lies(t, d, row(append(f.bodies(), f.later().hardBody())...))
	}
}

// TestOpenGoesOn: P13.1, what stands behind a file's first records: each one's turn.
func TestOpenGoesOn(t *testing.T) {
	f := full()
	x, y := entry(8, 2, "x"), entry(1, 1, "")
	for what, c := range map[string]struct {
		behind []string
		want   found
	}{
		"terms, votes, lives": {[]string{hardBody(3, 0, 1), hardBody(2, 1, 0), hardBody(8, 4, 5)}, found{api.Hard{Term: 8, Vote: 4, Life: 5}, f.log, f.image}},
		"behind the end":      {[]string{entryBody(308, x), entryBody(309, y)}, f.with(308, x, y)},
		"at the last":         {[]string{entryBody(307, x)}, f.with(307, x)},
		"at the first":        {[]string{entryBody(301, x)}, f.with(301, x)},
		"back and forth":      {[]string{entryBody(305, x), entryBody(306, y), entryBody(306, x), entryBody(303, y), entryBody(304, y)}, f.with(303, y, y)},
		"all of it":           {[]string{hardBody(3, 2, 1), entryBody(301, x), hardBody(4, 0, 2), entryBody(302, x)}, found{api.Hard{Term: 4, Life: 2}, f.with(301, x, x).log, f.image}},
	} {
		t.Run(what, func(t *testing.T) {
			bodies := append(f.bodies(), c.behind...)
			d := newDisk(t, api.MaxDisk, row(bodies...))
			j, _, e := agreesOpen(t, d)
			if e != api.OK {
				t.Fatal(e)
			}
			holds(t, j, c.want.later())
			lies(t, d, row(append(bodies, c.want.later().hardBody())...))
		})
	}
	bodies := found{}.bodies()[:1] // no hard record
	d := newDisk(t, 100, row(bodies...))
	holds(t, open(t, d), found{}.later())
	lies(t, d, row(append(bodies, hardBody(0, 0, 1))...))
}

// TestOpenWrong: P13.1, ErrForm of each file that is not right.
func TestOpenWrong(t *testing.T) {
	const long = "\x80\x00" // 0, in a form that is not its own
	f := full()
	base, h := baseBody(300, 7, []int{1, 3}, 0), hardBody(1, 2, 3)
	x := entryBody(301, entry(1, 1, "x"))
	based := func(base string) []string { return []string{base, h, x} }
	behind := func(bodies ...string) []string { return append([]string{base, h, x}, bodies...) }
	pieced := func(size int, pieces ...string) []string {
		l := []string{baseBody(300, 7, nil, size)}
		for _, s := range pieces {
			l = append(l, pieceBody(s))
		}
		return append(l, h)
	}
	great := num(1<<63 + 1)
	for what, bodies := range map[string][]string{
		"no record":                   {},
		"an empty one":                {""},
		"an empty one behind":         behind(""),
		"no base":                     {h, x},
		"a piece first":               {pieceBody("x"), base},
		"a kind 0":                    based("\x00" + base[1:]),
		"a kind 5":                    based("\x05" + base[1:]),
		"a kind 5 behind":             behind("\x05\x00\x00\x00"),
		"a kind 0 behind":             behind("\x00\x00\x00\x00"),
		"a kind of 2^63 + 3":          behind(num(1<<63+3) + h[1:]),
		"a kind of 2^32 + 3":          behind(num(1<<32+3) + h[1:]),
		"a kind in another form":      behind("\x83\x00" + h[1:]),
		"a kind alone":                behind("\x03"),
		"a base behind":               behind(base),
		"a base twice":                {base, base, h},
		"a base at the end":           {base, base},
		"a base of 2^62 + 1":          {baseBody(1<<62+1, 7, nil, 0), h},
		"a base of 2^64 - 1":          {baseBody(1<<64-1, 7, nil, 0), h},
		"six nodes":                   based(baseBody(300, 7, []int{1, 2, 3, 4, 5, 5}, 0)),
		"six others":                  based(baseBody(300, 7, []int{0, 1, 2, 3, 4, 5}, 0)),
		"a node 0":                    based(baseBody(300, 7, []int{0, 1}, 0)),
		"a node 6":                    based(baseBody(300, 7, []int{1, 6}, 0)),
		"a node of 2^63 + 1":          based(num(1) + num(300) + num(7) + num(1) + great + num(0)),
		"a node of 2^32 + 1":          based(num(1) + num(300) + num(7) + num(1) + num(1<<32+1) + num(0)),
		"a node twice":                based(baseBody(300, 7, []int{1, 3, 3}, 0)),
		"nodes that fall":             based(baseBody(300, 7, []int{1, 3, 2}, 0)),
		"2^63 + 1 nodes":              based(num(1) + num(300) + num(7) + great + num(0)),
		"a base with a byte behind":   based(base + "\x00"),
		"a base without a size":       based(base[:len(base)-1]),
		"a base's size":               based(base[:len(base)-1] + long),
		"a size of 2^18 + 1":          pieced(1<<18+1, slices.Repeat([]string{noise(4096)}, 64)...),
		"a size of 2^18 + 1, and all": pieced(1<<18+1, append(slices.Repeat([]string{noise(4096)}, 64), "x")...),
		"a size of 2^63 + 1":          {num(1) + num(300) + num(7) + num(0) + great, h},
		"no piece":                    pieced(1),
		"no piece at the end":         pieced(1)[:1],
		"a piece too many":            pieced(0, "x"),
		"an empty piece":              pieced(0, ""),
		"an empty piece behind":       pieced(1, "x", ""),
		"an empty piece ahead":        pieced(1, "", "x"),
		"an empty piece behind 4096":  pieced(4096, noise(4096), ""),
		"a piece of a byte less":      pieced(5, "horn"),
		"a piece of a byte more":      pieced(5, "horns!"),
		"a piece of 4095":             pieced(4097, noise(4095), "xx"),
		"a piece of 4095 alone":       pieced(4096, noise(4095)),
		"a piece of 4097":             pieced(4097, noise(4097)),
		"a piece of 4097, and more":   pieced(5000, noise(4097), noise(903)),
		"a piece in two":              pieced(4, "ho", "rn"),
		"the last one is missing":     pieced(4097, noise(4096)),
		"the last one is too long":    pieced(4097, noise(4096), "xx"),
		"the last one is 4096 long":   pieced(4097, noise(4096), noise(4096)),
		"a piece behind hard":         append(pieced(1), pieceBody("x")),
		"a piece behind an entry":     {baseBody(300, 7, nil, 1), x, pieceBody("x")},
		"a piece behind the others":   append(pieced(4, "horn"), pieceBody("x")),
		"hard between pieces":         {baseBody(300, 7, nil, 4097), pieceBody(noise(4096)), h, pieceBody("x")},
		"an entry between pieces":     {baseBody(300, 7, nil, 4097), pieceBody(noise(4096)), x, pieceBody("x")},
		"a piece with a byte behind":  {baseBody(300, 7, nil, 1), pieceBody("x") + "x", h},
		"a piece cut off":             {baseBody(300, 7, nil, 4), pieceBody("horn")[:5], h},
		"a vote of 6":                 behind(hardBody(1, 6, 3)),
		"a vote of 2^63 + 1":          behind(num(3) + num(1) + great + num(3)),
		"a vote of 2^32 + 1":          behind(num(3) + num(1) + num(1<<32+1) + num(3)),
		"hard with a byte behind":     behind(h + "\x00"),
		"hard without a life":         behind(h[:3]),
		"hard with another form":      behind("\x03\x01\x02" + long),
		"a life of 2^64":              behind("\x03\x01\x02" + strings.Repeat("\xff", 9) + "\x02"),
		"an index ahead of the first": behind(entryBody(300, entry(1, 1, "x"))),
		"an index 0":                  behind(entryBody(0, entry(1, 1, "x"))),
		"two above the last":          behind(entryBody(303, entry(1, 1, "x"))),
		"the first is two above":      {base, h, entryBody(302, entry(1, 1, "x"))},
		"an index of 2^64 - 1":        behind(entryBody(1<<64-1, entry(1, 1, "x"))),
		"an index of 2^32 + 301":      behind(entryBody(1<<32+301, entry(1, 1, "x"))),
		"a gap behind a cut":          append(f.bodies(), entryBody(302, entry(1, 1, "")), entryBody(304, entry(1, 1, ""))),
		"a kind 0 of an entry":        behind(entryBody(302, entry(1, 0, "x"))),
		"a kind 4 of an entry":        behind(entryBody(302, entry(1, 4, "x"))),
		"a kind of 2^63 + 1 of one":   behind(num(4) + num(302) + num(1) + great + text("x")),
		"a kind of 2^32 + 1 of one":   behind(num(4) + num(302) + num(1) + num(1<<32+1) + text("x")),
		"data of 2049 bytes":          behind(entryBody(302, entry(1, 1, noise(2049)))),
		"an entry with one behind":    behind(x + "x"),
		"an entry cut off":            behind(entryBody(302, entry(1, 1, "xyz"))[:7]),
		"an entry without data":       behind(entryBody(302, entry(1, 1, ""))[:5]),
		"wrong, then right":           {base, hardBody(1, 6, 3), h, x},
		"an entry wrong, then cut":    {base, entryBody(301, entry(1, 9, "x")), entryBody(301, entry(1, 1, "x"))},
	} {
		if _, right := read(bodies); right {
			t.Errorf("%s: it is right by the other road", what)
		}
		refused(t, what, row(bodies...), api.ErrForm)
	}
}

// TestOpenKinds: P13.1, records of all other kinds.
func TestOpenKinds(t *testing.T) {
	bodies := full().bodies()
	for _, kind := range append(greats(), 6, 8, 9, 10, 11, 12, 13, 14, 18, 19) {
		for i := range bodies {
			if bodies[i][0] != byte(kind) || kind > 4 {
				l := slices.Clone(bodies)
				l[i] = num(kind) + bodies[i][1:]
				refused(t, "another kind", row(l...), api.ErrForm)
			}
		}
	}
}

// TestOpenCutRecords: P13.1, each record cut off anywhere, and with each byte behind it.
func TestOpenCutRecords(t *testing.T) {
	bodies := found{full().hard, api.Log{Base: 300, BaseTerm: 128, BaseConf: []int{1, 3, 5}, L: some(3)}, "horn"}.bodies()
	for i, body := range bodies {
		with := func(s string) []string {
			l := slices.Clone(bodies)
			l[i] = s
			return l
		}
		for n := range len(body) {
			refused(t, "cut off", row(with(body[:n])...), api.ErrForm)
		}
		for b := range 256 {
			refused(t, "a byte behind", row(with(body+string([]byte{byte(b)}))...), api.ErrForm)
		}
	}
}

// TestOpenFaults: P13.1, what All tells but ErrShort is the answer, ahead of ErrForm.
func TestOpenFaults(t *testing.T) {
	right, wrong := row(full().bodies()...), row("\x05", hardBody(1, 6, 1))
	tooLong := "\x00\x01\x00\x01abcd"
	turned := []byte(row(hardBody(1, 2, 3)))
	turned[len(turned)-1]++
	for _, ahead := range []string{right, wrong, ""} {
		for _, behind := range []string{"", right, wrong, "abc", tooLong, string(turned)} {
			refused(t, "too long", ahead+tooLong+behind, api.ErrLong)
			refused(t, "turned", ahead+string(turned)+behind, api.ErrSum)
		}
	}
	for at := 4; at < len(turned); at++ {
		b := []byte(right + row(hardBody(1, 2, 3)))
		b[len(right)+at] ^= 0x10
		refused(t, "turned", string(b)+right, api.ErrSum)
	}
}

// TestOpenTorn: P13.1, cut off at each byte: what is left of a record is taken away; where that makes a file that is not right, it is ErrForm.
func TestOpenTorn(t *testing.T) {
	f := full()
	f.image = noise(4096 + 5)
	bodies := append(f.bodies(), hardBody(10, 1, 4), entryBody(303, entry(9, 3, "x")), entryBody(304, entry(9, 1, "")), hardBody(11, 0, 5))
	s := row(bodies...)
	ahead := len(row(bodies[:3]...)) // the base and its pieces
	for n := range len(s) + 1 {
		if n > 50 && n < ahead-50 && n%37 != 0 {
			continue
		}
		whole, end, _ := cut(s[:n])
		d := newDisk(t, api.MaxDisk, s[:n])
		j, _, e := agreesOpen(t, d)
		if n < ahead {
			if e != api.ErrForm {
				t.Errorf("the first %d bytes: %d", n, e)
			}
			lies(t, d, s[:end])
			continue
		}
		want, _ := read(whole)
		holds(t, j, want.later())
		lies(t, d, s[:end]+row(want.later().hardBody()))
		holds(t, open(t, d), want.later().later())
	}
}

// TestLife: P13.1, each Open counts a life, up to 2^63 - 1; a record of it is added even where it stays.
func TestLife(t *testing.T) {
	for life, want := range map[uint64]uint64{
		0:         1,
		1:         2,
		127:       128,
		1<<31 - 1: 1 << 31,
		1<<32 - 1: 1 << 32,
		1<<62 - 1: 1 << 62,
		1<<63 - 3: 1<<63 - 2,
		1<<63 - 2: 1<<63 - 1,
		1<<63 - 1: 1<<63 - 1,
		1 << 63:   1 << 63,
		1<<63 + 1: 1<<63 + 1,
		1<<64 - 1: 1<<64 - 1,
	} {
		f := found{hard: api.Hard{Term: 3, Vote: 2, Life: life}}
		d := newDisk(t, 1000, row(f.bodies()...))
		holds(t, open(t, d), found{hard: api.Hard{Term: 3, Vote: 2, Life: want}})
		lies(t, d, row(append(f.bodies(), hardBody(3, 2, want))...))
	}
}

// starts is disks with all that Open may find.
func starts(t *testing.T, capacity int) map[string]*disk.Disk {
	t.Helper()
	f := full()
	f.image, f.log.L = "horn", some(2)
	s := row(f.bodies()...)
	m := map[string]*disk.Disk{
		"nothing":             newDisk(t, capacity),
		"a file":              newDisk(t, capacity, s),
		"a torn one":          newDisk(t, capacity, s[:len(s)-1]),
		"a wrong one":         newDisk(t, capacity, row(hardBody(1, 6, 0))),
		"a wrong one, torn":   newDisk(t, capacity, s[:len(row(f.bodies()[0]))+3]),
		"another sum":         newDisk(t, capacity, s+row("x")[:8]+"y"),
		"nothing, cut":        newDisk(t, capacity, s[:5]),
		"a file that is none": newDisk(t, capacity, ""),
	}
	m["one that is pending"] = newDisk(t, capacity)
	m["one that is pending"].Add("log", s[:len(s)-3])
	return m
}

// TestOpenPower: P13.1, the power goes at each call: a Put, an Add, each followed by a Sync.
func TestOpenPower(t *testing.T) {
	for what, calls := range map[string]int{"nothing": 4, "a file": 2, "a torn one": 4, "a wrong one": 0, "a wrong one, torn": 2, "another sum": 0, "nothing, cut": 2, "a file that is none": 0, "one that is pending": 4} {
		for n := range 6 {
			d := starts(t, 1000)[what]
			d.Fuse(n)
			_, _, e := agreesOpen(t, d)
			if (e == api.ErrPower) != (n < max(calls, 1)) || d.Off() != (n <= calls) {
				t.Errorf("%s, Fuse(%d): %d, off %t", what, n, e, d.Off())
			}
			for k := range d.Pending() + 1 {
				twin := d.Twin()
				twin.Crash(k)
				agreesOpen(t, twin)
			}
		}
	}
}

// TestOpenFull: P13.1, room for all, or for a byte less.
func TestOpenFull(t *testing.T) {
	fresh := len(row("\x01\x00\x00\x00\x00", "\x03\x00\x00\x00"))
	for capacity := range 100 {
		d := newDisk(t, capacity)
		_, _, e := agreesOpen(t, d)
		if (e == api.OK) != (capacity >= fresh+12) || e != api.OK && e != api.ErrFull {
			t.Errorf("a capacity of %d: %d", capacity, e)
		}
		if e != api.OK && capacity >= fresh && d.Used() != fresh {
			t.Errorf("a capacity of %d: %d bytes", capacity, d.Used())
		}
	}
	for what := range starts(t, 1000) {
		for room := range 30 {
			s, no := starts(t, 1000)[what].Read("log")
			if no != api.OK {
				continue
			}
			d := newDisk(t, len(s)+room, s)
			agreesOpen(t, d)
			d.Crash(0)
			agreesOpen(t, d)
		}
	}
}
