package match_test

import (
	"math/rand"
	"reflect"
	"strings"
	"sync"
	"testing"
	"time"
	"unsafe"

	"posthorn/api"
	"posthorn/match"
)

// TestTurnsNone: what is handed in stays, spare room included.
func TestTurnsNone(t *testing.T) {
	for _, s := range []string{"OR NOT (SEEN 4:2,3) (UID 9:*,1 SUBJECT hI UNKEYWORD a)", "NOT NOT TEXT Hi BODY yoU", "ALL", "NOT OR 5:1 *:1"} {
		row := append(search(t, s), or, and(2), yes, no)
		was := search(t, s)
		n := len(was)
		was = append(was, or, and(2), yes, no)
		b := []byte(horn().m)
		y := horn()
		y.m = unsafe.String(unsafe.SliceData(b), len(b))
		flags := []string{"b", `\Seen`, "a", "spare"}
		y.x.Flags = flags[:3]
		match.Whole(row[:n])
		match.Wants(row[:n])
		match.Match(row[:n], y.x, y.at, y.m)
		match.Match(row[:n-1], y.x, y.at, y.m) // not whole
		if !reflect.DeepEqual(row, was) || !reflect.DeepEqual(flags, []string{"b", `\Seen`, "a", "spare"}) || string(b) != horn().m {
			t.Errorf("%s: %v, %q, %q", s, row, flags, b)
		}
	}
}

// TestKeepsNone: what is answered hangs on the arguments alone, whatever was asked ahead, and whoever asks beside.
func TestKeepsNone(t *testing.T) {
	dice := rand.New(rand.NewSource(116))
	type asked struct {
		l    []api.Key
		y    meant
		want bool
	}
	var all []asked
	for range 500 {
		l, y := anyKeys(dice, dice.Intn(6), 1+dice.Intn(25)), anyLetter(dice)
		all = append(all, asked{l, y, match.Match(l, y.x, y.at, y.m)})
	}
	var askers sync.WaitGroup
	for by := range 8 {
		askers.Go(func() {
			for i := range all {
				a := all[(i*(2*by+1)+by)%len(all)]
				says(t, a.l, a.y, a.want)
			}
		})
	}
	askers.Wait()
}

// TestLong: the calls end soon, whatever long texts, sets and flags they are handed.
func TestLong(t *testing.T) {
	const n = 1 << 20
	begun := time.Now()
	y := horn()
	y.m = "Subject: " + strings.Repeat("a", n) + crlf + strings.Repeat(" b"+crlf, n) + "To: x" + crlf + crlf + strings.Repeat("ab", n)
	y.x.Flags = append(make([]string, n), "last")
	set := append(make([]api.Range, n), api.Range{From: 2, To: 7})
	says(t, keys(and(7),
		api.Key{Kind: api.KeyText, Text: strings.Repeat("BA", n-1)},
		api.Key{Kind: api.KeyBody, Text: strings.Repeat("AB", n)},
		api.Key{Kind: api.KeyHeader, Field: "subject", Text: strings.Repeat("A", n) + " B"},
		api.Key{Kind: api.KeyHeader, Field: "to", Text: "x"},
		api.Key{Kind: api.KeySet, Set: set},
		api.Key{Kind: api.KeyUid, Set: set},
		api.Key{Kind: api.KeyFlag, Field: "last", N: 1},
	), y, true)
	says(t, keys(api.Key{Kind: api.KeyBody, Text: strings.Repeat("A", n)}), y, false)
	says(t, keys(api.Key{Kind: api.KeyHeader, Field: strings.Repeat("x", n), Text: "x"}), y, false)
	if took := time.Since(begun); took > 20*time.Second {
		t.Errorf("took %s", took)
	}
}
