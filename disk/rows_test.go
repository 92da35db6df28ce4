package disk_test

import (
	"math/rand"
	"slices"
	"strings"
	"testing"

	"posthorn/disk"
)

// rows checks all rows of at most so many of these calls on a small disk, and each crash behind them, against the other road.
func rows(t *testing.T, most int, acts ...act) {
	t.Helper()
	var row func(d *disk.Disk, o *other, behind []act)
	row = func(d *disk.Disk, o *other, behind []act) {
		agreesCrashed(t, d, o, behind)
		if len(behind) == most {
			return
		}
		for _, a := range acts {
			twin, also := d.Twin(), o.twin()
			agreesDo(t, twin, also, a, behind)
			row(twin, also, append(slices.Clip(behind), a))
		}
	}
	row(newDisk(t, 4), newOther(4), nil)
}

// TestRows: P12.1 to P12.8, short rows of all calls.
func TestRows(t *testing.T) {
	rows(t, 4, add("a", "xy"), add("a", ""), add("b", "u"), put("a", "1"), put("a", "234"), put("b", ""), drop("a"), drop("b"),
		sync(), fuse(-1), fuse(0), fuse(1), crash(0), crash(1), crash(2))
}

// TestRowsOfAFew: P12.2, P12.4 and P12.6, longer rows of a few calls.
func TestRowsOfAFew(t *testing.T) {
	rows(t, 6, add("a", "xy"), put("a", "1"), drop("a"), put("b", ""), sync(), crash(1))
}

// anyAct is a call that is often done.
func anyAct(dice *rand.Rand, pending int) act {
	name := []string{"a", "b", "c", "\xff", "a\x00", strings.Repeat("n", 80), strings.Repeat("n", 81), ""}[min(dice.Intn(9), dice.Intn(8))]
	b := make([]byte, dice.Intn(1+dice.Intn(7)))
	for i := range b {
		b[i] = byte(dice.Intn(256))
	}
	switch dice.Intn(16) {
	case 0, 1, 2, 3, 4, 5:
		return add(name, string(b))
	case 6, 7, 8, 9:
		return put(name, string(b))
	case 10, 11:
		return drop(name)
	case 12:
		return sync()
	case 13:
		return crash(dice.Intn(pending+3) - 1)
	}
	return fuse(dice.Intn(12) - 2)
}

// TestDice: P12.1 to P12.8, long rows of calls, without twins between them, against the other road.
func TestDice(t *testing.T) {
	dice := rand.New(rand.NewSource(12))
	for range 1500 {
		capacity := dice.Intn(1 + dice.Intn(60))
		d, o := newDisk(t, capacity), newOther(capacity)
		var behind []act
		for range 60 {
			a := anyAct(dice, o.pending())
			agreesDo(t, d, o, a, behind)
			behind = append(behind, a)
			if d.Used() > capacity {
				t.Fatalf("behind %v: Used %d of %d", behind, d.Used(), capacity)
			}
		}
	}
}

// TestDiceOfTwins: P12.5 and P12.6, rows of calls to several disks that are twins of one another, and each crash of them.
func TestDiceOfTwins(t *testing.T) {
	dice := rand.New(rand.NewSource(125))
	for range 150 {
		capacity := dice.Intn(60)
		var d [4]*disk.Disk
		var o [4]*other
		for i := range d {
			d[i], o[i] = newDisk(t, capacity), newOther(capacity)
		}
		for range 60 {
			i, j := dice.Intn(4), dice.Intn(4)
			if dice.Intn(5) == 0 {
				d[i], o[i] = d[j].Twin(), o[j].twin()
			}
			agreesDo(t, d[j], o[j], anyAct(dice, o[j].pending()), nil)
			for k := range d {
				agrees(t, d[k], o[k], nil)
			}
		}
		for k := range d {
			agreesCrashed(t, d[k], o[k], nil)
		}
	}
}
