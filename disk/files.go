package disk

import "slices"

type file struct{ bytes []byte }

// files are files by their names. The bytes of each stand in memory of its own, since what is added to one in place would turn others that share it.
type files map[string]file

func (f files) add(name, s string) { f[name] = file{append(f[name].bytes, s...)} }

func (f files) put(name, s string) { f[name] = file{[]byte(s)} }

func (f files) drop(name string) { delete(f, name) }

func (f files) has(name string) bool {
	_, ok := f[name]
	return ok
}

// size is how many bytes a file has; 0 if there is none.
func (f files) size(name string) int { return len(f[name].bytes) }

// sum is how many bytes all files have.
func (f files) sum() int {
	n := 0
	for _, x := range f {
		n += len(x.bytes)
	}
	return n
}

// twin are other files that are the same.
func (f files) twin() files {
	l := files{}
	for name, x := range f {
		l[name] = file{slices.Clone(x.bytes)}
	}
	return l
}
