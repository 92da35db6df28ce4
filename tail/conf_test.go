package tail_test

import (
	"slices"
	"strings"
	"testing"

	"posthorn/api"
)

// TestConf: P16.2, the members at the end, and where that is said.
func TestConf(t *testing.T) {
	base := []int{2, 3}
	for _, x := range []struct {
		l    []api.Entry
		want []int
		at   uint64
	}{
		{nil, base, 5},
		{[]api.Entry{of(1), of(1)}, base, 5},
		{[]api.Entry{conf(1, 2)}, []int{1, 2}, 6},
		{[]api.Entry{of(1), conf(1, 2), of(1)}, []int{1, 2}, 7},
		{[]api.Entry{of(1), conf(1, 2), conf(1, 2, 3)}, []int{1, 2, 3}, 8},
		{[]api.Entry{conf(1, 2, 3), conf(1, 2), of(1)}, []int{1, 2}, 7},
		{[]api.Entry{conf(1, 2), conf(1, 2)}, []int{1, 2}, 7},
		{[]api.Entry{conf(2, 3)}, base, 6},
		{[]api.Entry{conf(2, 1)}, base, 5}, // what aren't members says nothing
		{[]api.Entry{conf(4), conf(2, 1), conf(), conf(6), of(1)}, []int{4}, 6},
		{[]api.Entry{conf(4), {Term: 1, Kind: api.EntConf}}, []int{4}, 6},
		{[]api.Entry{conf(4), {Term: 1, Kind: api.EntConf, Data: "\x01\x01\x00"}}, []int{4}, 6},
		{[]api.Entry{conf(4), {Term: 1, Kind: api.EntMail, Data: text(1, 2)}}, []int{4}, 6}, // entries of other kinds say nothing
		{[]api.Entry{conf(4), {Term: 1, Kind: api.EntNone, Data: text(1, 2)}}, []int{4}, 6},
		{[]api.Entry{{Term: 1, Kind: api.EntMail, Data: text(1, 2)}}, base, 5},
	} {
		g := api.Log{Base: 5, BaseTerm: 1, BaseConf: base, L: x.l}
		confs(t, g, x.want, x.at)
		confsAt(t, g, uint64(5+len(x.l)), x.want)
	}
	confs(t, api.Log{}, nil, 0)
	confs(t, api.Log{Base: 4}, nil, 4)
	confs(t, api.Log{Base: 4, L: []api.Entry{of(1), conf(2, 1)}}, nil, 4)
	confs(t, api.Log{L: []api.Entry{conf(5)}}, []int{5}, 1)
	confs(t, api.Log{Base: maxBase, L: []api.Entry{of(1), conf(5), of(1)}}, []int{5}, maxBase+2)
	for _, l := range all() {
		confs(t, api.Log{Base: 1, BaseConf: l}, l, 1)
		confs(t, api.Log{Base: 1, BaseConf: []int{1, 3}, L: []api.Entry{conf(l...)}}, l, 2)
	}
}

// TestConfAt: P16.2, the members at each index, ahead of the base and past the end, too.
func TestConfAt(t *testing.T) {
	g := api.Log{Base: 5, BaseTerm: 1, BaseConf: []int{1}, L: []api.Entry{of(1), conf(1, 2), of(1), conf(2, 1), conf(1, 2, 3), of(1)}}
	for i, want := range [][]int{{1}, {1}, {1}, {1}, {1}, {1}, {1}, {1, 2}, {1, 2}, {1, 2}, {1, 2, 3}, {1, 2, 3}, {1, 2, 3}, {1, 2, 3}} {
		confsAt(t, g, uint64(i), want)
	}
	for _, i := range great {
		confsAt(t, g, i, []int{1, 2, 3})
		confsAt(t, api.Log{Base: maxBase, BaseConf: []int{1, 2}, L: []api.Entry{of(1)}}, i, []int{1, 2})
		confsAt(t, api.Log{L: []api.Entry{of(1)}}, i, nil)
	}
	g.Base = maxBase
	confsAt(t, g, maxBase+1, []int{1})
	confsAt(t, g, maxBase+2, []int{1, 2})
	confsAt(t, g, maxBase+4, []int{1, 2})
	confsAt(t, g, maxBase+5, []int{1, 2, 3})
	confsAt(t, g, 7, []int{1})
}

// TestConfOfAll: P16.2, all short rows of entries that say who the members are, and that don't, at each index, by another road.
func TestConfOfAll(t *testing.T) {
	of := []api.Entry{
		{Term: 1, Kind: api.EntNone},
		{Term: 1, Kind: api.EntMail, Data: text(4, 5)},
		conf(1, 2), conf(1, 2, 3), conf(3, 2),
		{Term: 1, Kind: api.EntConf, Data: "\x00"},
	}
	for l := range rows(5, of...) {
		g := api.Log{Base: 3, BaseTerm: 1, BaseConf: []int{3}, L: l}
		o := otherOf(g)
		members, at := o.conf(o.last)
		confs(t, g, members, at)
		for i := range uint64(11) {
			members, _ := o.conf(i)
			confsAt(t, g, i, members)
		}
	}
}

// TestConfOfAllTexts: P16.2, all short texts: those that layer 15 reads say who the members are, and no others.
func TestConfOfAllTexts(t *testing.T) {
	var bytes []byte
	for b := range byte(8) {
		bytes = append(bytes, b)
	}
	said := 0
	for s := range rows(4, append(bytes, 0x80, 0x81, 0xff)...) {
		g := api.Log{Base: 3, BaseConf: []int{2, 4}, L: []api.Entry{{Kind: api.EntConf, Data: string(s)}}}
		want, at := reads(string(s)), uint64(4)
		if want == nil {
			want, at = []int{2, 4}, 3
		} else {
			said++
		}
		confs(t, g, want, at)
	}
	if said != 5+10+10 {
		t.Errorf("%d texts say who the members are", said)
	}
	for _, l := range all() {
		s := text(l...)
		for at := range s {
			for b := range 256 {
				turned := s[:at] + string([]byte{byte(b)}) + s[at+1:]
				want := reads(turned)
				if want == nil {
					want = []int{3}
				}
				confsAt(t, api.Log{BaseConf: []int{3}, L: []api.Entry{{Kind: api.EntConf, Data: turned}}}, 1, want)
			}
		}
		for _, turned := range []string{s + "\x00", s + s, s[:len(s)-1], "\x00" + s, strings.ToUpper(s) + " ", s + strings.Repeat("x", 2048)} {
			confsAt(t, api.Log{BaseConf: []int{3}, L: []api.Entry{{Kind: api.EntConf, Data: turned}}}, 1, []int{3})
		}
	}
}

// TestConfOfLong: P16.2, entries that say who the members are in each place of a log that is as long as it may be.
func TestConfOfLong(t *testing.T) {
	for _, n := range []int{1, 2, 16, 1024} {
		for at := 0; at < n; at += 1 + n/40 {
			g := api.Log{Base: 7, BaseConf: []int{1}, L: slices.Repeat([]api.Entry{{Term: 1, Kind: api.EntConf, Data: "\x05\x01"}}, n)}
			g.L[at] = conf(2, 3)
			here := uint64(8 + at)
			confs(t, g, []int{2, 3}, here)
			confsAt(t, g, here, []int{2, 3})
			confsAt(t, g, here-1, []int{1})
			g.L[n/2] = conf(2, 3)
			o := otherOf(g)
			members, i := o.conf(o.last)
			confs(t, g, members, i)
		}
	}
}
