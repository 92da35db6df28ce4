package reply_test

import (
	"reflect"
	"slices"
	"strings"
	"testing"
	"unsafe"

	"posthorn/api"
	"posthorn/reply"
)

// cloned is a reply that shares no memory with r.
func cloned(r api.Reply) api.Reply {
	r.Tag, r.Code, r.Text, r.Box = strings.Clone(r.Tag), strings.Clone(r.Code), strings.Clone(r.Text), strings.Clone(r.Box)
	r.Nums, r.Flags, r.Values = slices.Clone(r.Nums), clonedTexts(r.Flags), slices.Clone(r.Values)
	for i := range r.Values {
		v := &r.Values[i]
		v.Flags, v.Text = clonedTexts(v.Flags), strings.Clone(v.Text)
	}
	return r
}

func clonedTexts(l []string) []string {
	l = slices.Clone(l)
	for i := range l {
		l[i] = strings.Clone(l[i])
	}
	return l
}

// TestKeepsNone: what is read has memory of its own: that of the text may hold other bytes later.
func TestKeepsNone(t *testing.T) {
	for _, x := range eachShape() {
		b := []byte(x.text + crlf)
		r, _, e := reply.Read(unsafe.String(unsafe.SliceData(b), len(b)))
		was := cloned(r)
		clear(b)
		if e != api.OK || !reflect.DeepEqual(r, was) {
			t.Errorf("%q: %+v became %+v, %d", x.text, was, r, e)
		}
	}
}

// TestPrintKeepsNone: likewise what is printed.
func TestPrintKeepsNone(t *testing.T) {
	for _, x := range eachShape() {
		var borrowed [][]byte
		borrow := func(s *string) {
			b := []byte(*s)
			*s = unsafe.String(unsafe.SliceData(b), len(b))
			borrowed = append(borrowed, b)
		}
		r := cloned(x.r)
		for _, s := range []*string{&r.Tag, &r.Code, &r.Text, &r.Box} {
			borrow(s)
		}
		for i := range r.Flags {
			borrow(&r.Flags[i])
		}
		for i := range r.Values {
			borrow(&r.Values[i].Text)
			for j := range r.Values[i].Flags {
				borrow(&r.Values[i].Flags[j])
			}
		}
		s, e := reply.Print(r)
		for _, b := range borrowed {
			clear(b)
		}
		if s != x.text+crlf || e != api.OK {
			t.Errorf("%q became %q, %d", x.text, s, e)
		}
	}
}

// TestTurnsNone: P9.1, what is handed in stays, spare room included.
func TestTurnsNone(t *testing.T) {
	spare := []string{"b", "a", "spare", "room"}
	values := []api.Value{{Kind: 6, Flags: spare[1:2]}, {Kind: 7, N: 1}, {Kind: 99}, {Kind: 98}}
	nums := []uint64{3, 2, 1, 9}
	wasSpare, wasValues, wasNums := slices.Clone(spare), slices.Clone(values), slices.Clone(nums)
	for _, r := range []api.Reply{
		{Kind: api.RepFlags, Flags: spare[:2]}, {Kind: api.RepFlags, Flags: spare[:1]}, {Kind: api.RepSearch, Nums: nums[:3]}, {Kind: api.RepFetch, Values: values[:2]}, {Kind: api.RepFetch, Values: values[:3]},
	} {
		was := r
		reply.Print(r)
		if !reflect.DeepEqual(r, was) || !slices.Equal(spare, wasSpare) || !slices.Equal(nums, wasNums) || !reflect.DeepEqual(values, wasValues) {
			t.Fatalf("Print turned %+v", was)
		}
	}
}

// TestOwnLists: two answers, and the lists of one, share no memory.
func TestOwnLists(t *testing.T) {
	for _, s := range []string{"* 3 FETCH (FLAGS (a b) FLAGS (a b))" + crlf, "* FLAGS (a b)" + crlf, "* SEARCH 1 2 3" + crlf} {
		one, _, _ := reply.Read(s)
		two, _, _ := reply.Read(s)
		was := cloned(two)
		turn := func(l []string) {
			for i := range l[:cap(l)] {
				l[:cap(l)][i] = "turned"
			}
		}
		turn(one.Flags)
		for i := range one.Nums[:cap(one.Nums)] {
			one.Nums[:cap(one.Nums)][i] = 99
		}
		if len(one.Values) == 2 {
			turn(one.Values[0].Flags)
			if !slices.Equal(one.Values[1].Flags, []string{"a", "b"}) {
				t.Errorf("%q: the lists of one answer share memory", s)
			}
		}
		for i := range one.Values {
			one.Values[i] = api.Value{}
		}
		if !reflect.DeepEqual(two, was) {
			t.Errorf("%q: two answers share memory", s)
		}
	}
}
