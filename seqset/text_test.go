package seqset_test

import (
	"iter"
	"math"
	"math/rand"
	"regexp"
	"slices"
	"strconv"
	"strings"
	"testing"

	"posthorn/api"
	"posthorn/seqset"
)

const maxUid = 4294967295

// set makes ranges of pairs of numbers.
func set(n ...uint64) []api.Range {
	var l []api.Range
	for pair := range slices.Chunk(n, 2) {
		l = append(l, api.Range{From: pair[0], To: pair[1]})
	}
	return l
}

// parses checks what Parse says of s.
func parses(t *testing.T, s string, want []api.Range, ok bool) {
	t.Helper()
	if got, gotOk := seqset.Parse(s); !slices.Equal(got, want) || gotOk != ok {
		t.Errorf("Parse(%.50q) = %v, %t; must be %v, %t", s, got, gotOk, want, ok)
	}
}

// prints checks what Print says of l.
func prints(t *testing.T, l []api.Range, want string, ok bool) {
	t.Helper()
	if got, gotOk := seqset.Print(l); got != want || gotOk != ok {
		t.Errorf("Print(%v) = %.50q, %t; must be %.50q, %t", l, got, gotOk, want, ok)
	}
}

// shortRows goes over all rows of at most most of the parts.
func shortRows(most int, parts ...string) iter.Seq[string] {
	return func(yield func(string) bool) {
		var grow func(row string, left int) bool
		grow = func(row string, left int) bool {
			if !yield(row) {
				return false
			}
			for _, p := range parts {
				if left > 0 && !grow(row+p, left-1) {
					return false
				}
			}
			return true
		}
		grow("", most)
	}
}

// times is a text of so many times s, parted by commas.
func times(n int, s string) string { return strings.Join(slices.Repeat([]string{s}, n), ",") }

// TestText: P5.1 and P5.2, sets and their texts.
func TestText(t *testing.T) {
	for s, l := range map[string][]api.Range{
		"1":                     set(1, 1),
		"*":                     set(0, 0),
		"9:*":                   set(9, 0),
		"*:9":                   set(0, 9),
		"1:*":                   set(1, 0),
		"2,4:7,9:*":             set(2, 2, 4, 7, 9, 0),
		"7:4":                   set(7, 4),
		"10,100:1000":           set(10, 10, 100, 1000),
		"3,2,1":                 set(3, 3, 2, 2, 1, 1),
		"5,5,1:9,5":             set(5, 5, 5, 5, 1, 9, 5, 5),
		"*,*":                   set(0, 0, 0, 0),
		"4294967295":            set(maxUid, maxUid),
		"4294967295:1":          set(maxUid, 1),
		"1:4294967295":          set(1, maxUid),
		"4294967294:4294967295": set(maxUid-1, maxUid),
		"*:4294967295":          set(0, maxUid),
	} {
		parses(t, s, l, true)
		prints(t, l, s, true)
	}
}

// TestParseTwice: P5.1, a range x:x is read, and is printed as x.
func TestParseTwice(t *testing.T) {
	for s, x := range map[string]uint64{"1": 1, "4": 4, "10": 10, "4294967295": maxUid, "*": 0} {
		parses(t, s+":"+s, set(x, x), true)
		parses(t, "3,"+s+":"+s+",2", set(3, 3, x, x, 2, 2), true)
		prints(t, set(x, x), s, true)
	}
}

// TestParseFaults: P5.1, texts that are no set's.
func TestParseFaults(t *testing.T) {
	for _, s := range []string{
		"", ",", "1,", ",1", "1,,2", ",,", "1:", ":1", ":", "1:,2", "1,:2", "1::2", "1:2:3", "*:*:*", "1:2:", ":1:2",
		"0", "0:1", "1:0", "0:0", "0:*", "*:0", "1,0", "01", "1:01", "01:1", "00", "1,02", "0001",
		"**", "1*", "*1", "1:**", "1:*2", "$", "1-2", "1;2", "1.2", "1.", "-1", "+1", "1:-1", "1e3", "0x1", "1_0", "a", "1a", "NIL", "all",
		" ", " 1", "1 ", "1 ,2", "1, 2", "1 :2", "1: 2", "1\r\n", "1\n", "\x001", "1\x00", "1\xff", "１", "٣", "1，2", "1：2", "(1)", `"1"`, "{1}", "1;*",
		"4294967296", "1:4294967296", "4294967296:1", "4294967296:4294967296", "1,4294967296", "4294967296,1", "4294967300", "10000000000",
		"9223372036854775807", "9223372036854775808", "18446744073709551615", "18446744073709551617", "99999999999999999999",
		"8589934593", // 1 behind rounds of 32 bits
		strings.Repeat("9", 100), strings.Repeat("1", 100000), strings.Repeat("*", 64), strings.Repeat(",", 63), strings.Repeat(":", 63),
	} {
		parses(t, s, nil, false)
	}
}

// TestParseOfEachByte: P5.1, alone, and ahead of a digit, behind one, between two.
func TestParseOfEachByte(t *testing.T) {
	for b := range 256 {
		s := string([]byte{byte(b)})
		switch d := uint64(b - '0'); {
		case b >= '1' && b <= '9':
			parses(t, s, set(d, d), true)
			parses(t, s+"1", set(10*d+1, 10*d+1), true)
		case s == "*":
			parses(t, s, set(0, 0), true)
			parses(t, s+"1", nil, false)
		default:
			parses(t, s, nil, false)
			parses(t, s+"1", nil, false)
		}
		switch d := uint64(b - '0'); {
		case b >= '0' && b <= '9':
			parses(t, "1"+s, set(10+d, 10+d), true)
			parses(t, "1"+s+"1", set(101+10*d, 101+10*d), true)
		case s == ",":
			parses(t, "1"+s, nil, false)
			parses(t, "2"+s+"1", set(2, 2, 1, 1), true)
		case s == ":":
			parses(t, "1"+s, nil, false)
			parses(t, "2"+s+"1", set(2, 1), true)
		default:
			parses(t, "1"+s, nil, false)
			parses(t, "1"+s+"1", nil, false)
		}
	}
}

// TestParseOfShortRows: P5.1, of all short rows of some parts, by another road.
func TestParseOfShortRows(t *testing.T) {
	text := regexp.MustCompile(`^([1-9][0-9]*|\*)(:([1-9][0-9]*|\*))?(,([1-9][0-9]*|\*)(:([1-9][0-9]*|\*))?)*$`)
	ranges := regexp.MustCompile(`([0-9]+|\*)(?::([0-9]+|\*))?`)
	number := func(s string) uint64 {
		n, _ := strconv.ParseUint(s, 10, 64) // * is 0
		return n
	}
	for s := range shortRows(7, "0", "3", "*", ":", ",") {
		if !text.MatchString(s) {
			parses(t, s, nil, false)
			continue
		}
		var want []api.Range
		for _, m := range ranges.FindAllStringSubmatch(s, -1) {
			r := api.Range{From: number(m[1]), To: number(m[2])}
			if m[2] == "" {
				r.To = r.From
			}
			want = append(want, r)
		}
		parses(t, s, want, true)
	}
}

// TestBound: P5.1 and P5.2, 1 to 64 ranges.
func TestBound(t *testing.T) {
	if api.MaxRanges != 64 || api.MaxUid != maxUid {
		t.Error("the limits")
	}
	for s, l := range map[string][]api.Range{
		"1":                     set(1, 1),
		"*":                     set(0, 0),
		"9:*":                   set(9, 0),
		"4294967295:4294967294": set(maxUid, maxUid-1),
	} {
		for n := 1; n <= 64; n++ {
			parses(t, times(n, s), slices.Repeat(l, n), true)
			prints(t, slices.Repeat(l, n), times(n, s), true)
		}
		for _, n := range []int{65, 66, 127, 128, 129, 256, 320, 1000} {
			parses(t, times(n, s), nil, false)
			prints(t, slices.Repeat(l, n), "", false)
		}
		parses(t, times(64, s)+",", nil, false)
		parses(t, ","+times(64, s), nil, false)
		parses(t, times(63, s)+",0", nil, false)
		parses(t, times(63, s)+",", nil, false)
	}
	parses(t, strings.Repeat("1,", 1<<20), nil, false)
	parses(t, strings.Repeat(",", 1<<20), nil, false)
}

// TestPrintFaults: P5.2, lists that are no set.
func TestPrintFaults(t *testing.T) {
	prints(t, nil, "", false)
	prints(t, []api.Range{}, "", false)
	for _, n := range []uint64{maxUid + 1, maxUid + 2, 2 * maxUid, 1 << 33, math.MaxInt64, 1 << 63, math.MaxUint64} {
		for _, l := range [][]api.Range{
			set(n, n), set(1, n), set(n, 1), set(0, n), set(n, 0), set(n, maxUid), set(maxUid, n),
			set(1, 1, n, n), set(n, 2, 1, 1), set(1, 1, 2, n, 3, 3), append(slices.Repeat(set(1, 1), 63), set(4, n)...),
		} {
			prints(t, l, "", false)
		}
	}
}

// TestThereAndBack: P5.5, Parse of Print is the set.
func TestThereAndBack(t *testing.T) {
	dice := rand.New(rand.NewSource(5))
	numbers := []uint64{0, 1, 2, 9, 10, 99, 100, 1 << 31, maxUid - 1, maxUid}
	for _, from := range numbers {
		for _, to := range numbers {
			thereAndBack(t, set(from, to))
			thereAndBack(t, set(7, 8, from, to, to, from))
		}
	}
	for range 2000 {
		l := make([]api.Range, 1+dice.Intn(64))
		for i := range l {
			l[i] = api.Range{From: uint64(dice.Uint32()) >> dice.Intn(33), To: uint64(dice.Uint32()) >> dice.Intn(33)}
		}
		thereAndBack(t, l)
	}
}

// thereAndBack checks that a set is printed, and read as it was, and stays.
func thereAndBack(t *testing.T, l []api.Range) {
	t.Helper()
	was := slices.Clone(l)
	s, ok := seqset.Print(l)
	if !ok {
		t.Errorf("Print(%v): false", l)
	}
	parses(t, s, was, true)
	if !slices.Equal(l, was) {
		t.Errorf("Print turned %v into %v", was, l)
	}
}

// TestParseNew: what Parse tells is new memory.
func TestParseNew(t *testing.T) {
	a, _ := seqset.Parse("2,4:7,9:*")
	clear(a)
	parses(t, "2,4:7,9:*", set(2, 2, 4, 7, 9, 0), true)
}
