package disk_test

import (
	"fmt"
	"maps"
	"slices"
	"strings"
	"testing"

	"posthorn/api"
	"posthorn/disk"
)

// other is a disk by another road: it keeps what was seen behind each step since the last Sync, instead of what was done.
type other struct {
	capacity int
	steps    []map[string]string // the first one is what lasts, the last one what is seen
	fuse     int                 // below 0: none
	off      bool
}

func newOther(capacity int) *other {
	return &other{capacity: capacity, steps: []map[string]string{{}}, fuse: -1}
}

func (o *other) seen() map[string]string { return o.steps[len(o.steps)-1] }

func (o *other) pending() int { return len(o.steps) - 1 }

func (o *other) used() int { return len(strings.Join(slices.Collect(maps.Values(o.seen())), "")) }

// twin is another one; what stands behind a step is never turned any more.
func (o *other) twin() *other {
	twin := *o
	twin.steps = slices.Clone(o.steps)
	return &twin
}

// step is one step more.
func (o *other) step(turn func(f map[string]string)) {
	f := maps.Clone(o.seen())
	turn(f)
	o.steps = append(o.steps, f)
}

// counts counts a call that was done.
func (o *other) counts() api.Errno {
	if o.fuse > 0 {
		o.setFuse(o.fuse - 1)
	}
	return api.OK
}

func (o *other) setFuse(n int) { o.fuse, o.off = n, n == 0 }

func (o *other) crash(k int) api.Errno {
	if k < 0 || k >= len(o.steps) {
		return api.ErrArg
	}
	o.steps = []map[string]string{o.steps[k]}
	o.setFuse(-1)
	return api.OK
}

// over says whether files that are turned so have more bytes than the disk may have.
func (o *other) over(turn func(f map[string]string)) bool {
	then := o.twin()
	then.step(turn)
	return then.used() > o.capacity
}

func (o *other) add(name, s string) api.Errno {
	if e := o.refuses(name); e != api.OK {
		return e
	}
	if o.over(func(f map[string]string) { f[name] += s }) {
		return api.ErrFull
	}
	if s == "" {
		return api.OK
	}
	for _, c := range []byte(s) {
		o.step(func(f map[string]string) { f[name] += string([]byte{c}) })
	}
	return o.counts()
}

func (o *other) put(name, s string) api.Errno {
	if e := o.refuses(name); e != api.OK {
		return e
	}
	turn := func(f map[string]string) { f[name] = s }
	if o.over(turn) {
		return api.ErrFull
	}
	o.step(turn)
	return o.counts()
}

func (o *other) drop(name string) api.Errno {
	if e := o.refuses(name); e != api.OK {
		return e
	}
	if _, ok := o.seen()[name]; !ok {
		return api.ErrNone
	}
	o.step(func(f map[string]string) { delete(f, name) })
	return o.counts()
}

func (o *other) sync() api.Errno {
	if o.off {
		return api.ErrPower
	}
	o.steps = []map[string]string{o.seen()}
	return o.counts()
}

func (o *other) refuses(name string) api.Errno {
	if name == "" || len(name) > 80 {
		return api.ErrArg
	}
	if o.off {
		return api.ErrPower
	}
	return api.OK
}

func (o *other) read(name string) (string, api.Errno) {
	if o.off {
		return "", api.ErrPower
	}
	s, ok := o.seen()[name]
	if !ok {
		return "", api.ErrNone
	}
	return s, api.OK
}

// act is a call that does something to a disk.
type act struct {
	do      string
	name, s string
	n       int
}

func (a act) String() string {
	if len(a.name) > 20 || len(a.s) > 20 {
		return fmt.Sprintf("%s %.10q.. (%d) %.10q.. (%d)", a.do, a.name, len(a.name), a.s, len(a.s))
	}
	return fmt.Sprintf("%s %q %q %d", a.do, a.name, a.s, a.n)
}

func add(name, s string) act { return act{do: "Add", name: name, s: s} }

func put(name, s string) act { return act{do: "Put", name: name, s: s} }

func drop(name string) act { return act{do: "Drop", name: name} }

func sync() act { return act{do: "Sync"} }

func fuse(n int) act { return act{do: "Fuse", n: n} }

func crash(k int) act { return act{do: "Crash", n: k} }

// on does it to a disk.
func (a act) on(d *disk.Disk) api.Errno {
	switch a.do {
	case "Add":
		return d.Add(a.name, a.s)
	case "Put":
		return d.Put(a.name, a.s)
	case "Drop":
		return d.Drop(a.name)
	case "Sync":
		return d.Sync()
	case "Crash":
		return d.Crash(a.n)
	}
	d.Fuse(a.n)
	return api.OK
}

// by does it by the other road.
func (a act) by(o *other) api.Errno {
	switch a.do {
	case "Add":
		return o.add(a.name, a.s)
	case "Put":
		return o.put(a.name, a.s)
	case "Drop":
		return o.drop(a.name)
	case "Sync":
		return o.sync()
	case "Crash":
		return o.crash(a.n)
	}
	o.setFuse(a.n)
	return api.OK
}

// newDisk is a disk of that capacity.
func newDisk(t *testing.T, capacity int) *disk.Disk {
	t.Helper()
	d, e := disk.New(capacity)
	if d == nil || e != api.OK {
		t.Fatalf("New(%d): %v, %d", capacity, d, e)
	}
	return d
}

// done is a disk to which all that was done, each OK.
func done(t *testing.T, capacity int, acts ...act) *disk.Disk {
	t.Helper()
	d := newDisk(t, capacity)
	for _, a := range acts {
		does(t, d, a, api.OK)
	}
	return d
}

// does checks what a call answers.
func does(t *testing.T, d *disk.Disk, a act, want api.Errno) {
	t.Helper()
	if e := a.on(d); e != want {
		t.Errorf("%v: %d, must be %d", a, e, want)
	}
}

// reads checks a file's bytes.
func reads(t *testing.T, d *disk.Disk, name, want string) {
	t.Helper()
	if s, e := d.Read(name); s != want || e != api.OK {
		t.Errorf("Read(%.20q): %.40q (%d), %d; must be %.40q (%d)", name, s, len(s), e, want, len(want))
	}
}

// lacks checks that there is no file of that name.
func lacks(t *testing.T, d *disk.Disk, name string) {
	t.Helper()
	if s, e := d.Read(name); s != "" || e != api.ErrNone || slices.Contains(d.Names(), name) {
		t.Errorf("Read(%.20q): %.40q, %d", name, s, e)
	}
}

// holds checks all that a disk with power tells: its files, each as name and bytes, by rising names, and how much is pending.
func holds(t *testing.T, d *disk.Disk, pending int, files ...string) {
	t.Helper()
	var names []string
	used := 0
	for i := 0; i < len(files); i += 2 {
		names = append(names, files[i])
		used += len(files[i+1])
		reads(t, d, files[i], files[i+1])
	}
	tells(t, d, names, used, pending)
	if d.Off() {
		t.Error("the power is gone")
	}
}

// tells checks what a disk tells without power, too.
func tells(t *testing.T, d *disk.Disk, names []string, used, pending int) {
	t.Helper()
	if got := d.Names(); !slices.Equal(got, names) || d.Used() != used || d.Pending() != pending {
		t.Errorf("Names %.40q, Used %d, Pending %d; must be %.40q, %d, %d", got, d.Used(), d.Pending(), names, used, pending)
	}
}

// isOff checks that the power is gone.
func isOff(t *testing.T, d *disk.Disk) {
	t.Helper()
	if !d.Off() {
		t.Error("the power is there")
	}
}

// agrees checks all that a disk tells against the other road.
func agrees(t *testing.T, d *disk.Disk, o *other, behind []act) {
	t.Helper()
	names := slices.Sorted(maps.Keys(o.seen()))
	if got := d.Names(); !slices.Equal(got, names) || d.Used() != o.used() || d.Pending() != o.pending() || d.Off() != o.off {
		t.Fatalf("behind %v: Names %q, Used %d, Pending %d, Off %t; must be %q, %d, %d, %t", behind, got, d.Used(), d.Pending(), d.Off(), names, o.used(), o.pending(), o.off)
	}
	for _, name := range append(names, "", "a", "none", strings.Repeat("n", 81)) {
		s, e := d.Read(name)
		want, no := o.read(name)
		if s != want || e != no {
			t.Fatalf("behind %v: Read(%.20q): %q, %d; must be %q, %d", behind, name, s, e, want, no)
		}
	}
}

// agreesDo does something to both, and checks what both tell then.
func agreesDo(t *testing.T, d *disk.Disk, o *other, a act, behind []act) {
	t.Helper()
	if e, want := a.on(d), a.by(o); e != want {
		t.Fatalf("behind %v: %v: %d, must be %d", behind, a, e, want)
	}
	agrees(t, d, o, append(slices.Clip(behind), a))
}

// agreesCrashed checks twins of a disk against the other road behind each crash.
func agreesCrashed(t *testing.T, d *disk.Disk, o *other, behind []act) {
	t.Helper()
	for k := -1; k <= o.pending()+1; k++ {
		twin, also := d.Twin(), o.twin()
		agreesDo(t, twin, also, crash(k), behind)
	}
	agrees(t, d, o, behind)
}
