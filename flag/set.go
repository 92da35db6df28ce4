package flag

import (
	"cmp"
	"iter"
	"slices"

	"posthorn/api"
)

// set is flags as they are kept, each once, in their order.
type set []string

// gather makes a set of the flags that are named.
func gather(names iter.Seq[string]) (set, api.Errno) {
	var s set
	for name := range names {
		f, ok := Canon(name)
		if !ok {
			return nil, api.ErrForm
		}
		s = s.with(f)
	}
	if len(s) > api.MaxFlags {
		return nil, api.ErrFull
	}
	return s, api.OK
}

// with is the set and one flag, laid into its memory where there is room. One flag more than may be is enough to tell that they are too many: the set grows no further, however many are named.
func (s set) with(f string) set {
	at, there := slices.BinarySearchFunc(s, f, order)
	if there || len(s) > api.MaxFlags {
		return s
	}
	return slices.Insert(s, at, f)
}

// order holds two flags against each other: those of the system come first.
func order(a, b string) int { return cmp.Or(cmp.Compare(rank(a), rank(b)), cmp.Compare(a, b)) }

// rank is a flag's place among those of the system; all keywords have the one behind them.
func rank(f string) int {
	for i, known := range system {
		if f == known {
			return i
		}
	}
	return len(system)
}

// changes is what may be done to a set by another one, each at its number.
func changes() [3]func(s, by set) set {
	return [...]func(s, by set) set{api.FlagsSet: set.become, api.FlagsAdd: set.add, api.FlagsTake: set.take}
}

func (s set) become(by set) set { return by }

func (s set) add(by set) set { return slices.Concat(s, by) }

func (s set) take(by set) set {
	var left set
	for _, f := range s {
		if !Has(by, f) {
			left = append(left, f)
		}
	}
	return left
}
