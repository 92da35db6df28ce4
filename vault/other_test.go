package vault_test

import (
	"crypto/sha256"
	"fmt"
	"math/rand"
	"regexp"
	"slices"
	"strings"
	"testing"

	"posthorn/api"
	"posthorn/disk"
	"posthorn/vault"
)

// sum is a text's digest by another road.
func sum(s string) string {
	b := sha256.Sum256([]byte(s))
	return string(b[:])
}

// nameOf is the name of the file under a digest.
func nameOf(digest string) string { return fmt.Sprintf("b%x", digest) }

// noise is n bytes, the same at every run.
func noise(n int) string {
	b := make([]byte, n)
	rand.New(rand.NewSource(int64(n))).Read(b)
	return string(b)
}

// bodies is n short bodies, by rising digests.
func bodies(n int) []string {
	var l []string
	for i := range n {
		l = append(l, fmt.Sprintf("body %d", i))
	}
	slices.SortFunc(l, func(a, b string) int { return strings.Compare(sum(a), sum(b)) })
	return l
}

// sums is the digests of bodies.
func sums(l ...string) []string {
	var all []string
	for _, s := range l {
		all = append(all, sum(s))
	}
	return all
}

// other is a vault by another road: what the chapter says of each call, on a disk.
type other struct{ *disk.Disk }

func (o other) put(body string) (string, api.Errno) {
	if len(body) > 4096 {
		return "", api.ErrLong
	}
	digest := sum(body)
	if s, e := o.Read(nameOf(digest)); e == api.OK && s == body {
		return digest, api.OK
	}
	for _, call := range []func() api.Errno{func() api.Errno { return o.Put(nameOf(digest), body) }, o.Sync} {
		if e := call(); e != api.OK {
			return "", e
		}
	}
	return digest, api.OK
}

func (o other) get(digest string) (string, api.Errno) {
	if len(digest) != 32 {
		return "", api.ErrArg
	}
	s, e := o.Read(nameOf(digest))
	if e == api.OK && sum(s) != digest {
		return "", api.ErrSum
	}
	return s, e
}

var fileOf = regexp.MustCompile(`\Ab[0-9a-f]{64}\z`)

// all is the digests of all files, rising.
func (o other) all() []string {
	var l []string
	for _, name := range o.Names() {
		var digest string
		if fileOf.MatchString(name) {
			fmt.Sscanf(name[1:], "%x", &digest)
			l = append(l, digest)
		}
	}
	slices.Sort(l)
	return l
}

func (o other) keep(digests ...string) (int, api.Errno) {
	l := slices.DeleteFunc(o.all(), func(digest string) bool { return slices.Contains(digests, digest) })
	for n, digest := range l {
		if e := o.Drop(nameOf(digest)); e != api.OK {
			return n, e
		}
	}
	if len(l) == 0 {
		return 0, api.OK
	}
	return len(l), o.Sync()
}

// newDisk is a disk with files, each as name and bytes, that last.
func newDisk(t *testing.T, capacity int, files ...string) *disk.Disk {
	t.Helper()
	d, e := disk.New(capacity)
	if e != api.OK {
		t.Fatalf("New(%d): %d", capacity, e)
	}
	for i := 0; i < len(files); i += 2 {
		if e := d.Put(files[i], files[i+1]); e != api.OK {
			t.Fatalf("Put(%q): %d", files[i], e)
		}
	}
	d.Sync()
	return d
}

// filled is a disk on which bodies lie, and a vault on it.
func filled(t *testing.T, capacity int, bodies ...string) (*vault.Vault, *disk.Disk) {
	t.Helper()
	d := newDisk(t, capacity)
	for _, s := range bodies {
		if e := d.Put(nameOf(sum(s)), s); e != api.OK {
			t.Fatalf("Put: %d", e)
		}
	}
	d.Sync()
	return open(t, d), d
}

func open(t *testing.T, d *disk.Disk) *vault.Vault {
	t.Helper()
	v := vault.Open(d)
	if v == nil {
		t.Fatal("Open: nil")
	}
	return v
}

// puts checks what Put answers: the body's digest, or an error and nothing beside it.
func puts(t *testing.T, v *vault.Vault, body string, want api.Errno) {
	t.Helper()
	digest := ""
	if want == api.OK {
		digest = sum(body)
	}
	if got, e := v.Put(body); got != digest || e != want {
		t.Errorf("Put(%.20q) (%d bytes): %x, %d; must be %x, %d", body, len(body), got, e, digest, want)
	}
}

// gets checks what Get and Has tell of bodies that are there.
func gets(t *testing.T, v *vault.Vault, bodies ...string) {
	t.Helper()
	for _, s := range bodies {
		tells(t, v, sum(s), s, api.OK)
	}
}

// tells checks what Get and Has tell of a digest.
func tells(t *testing.T, v *vault.Vault, digest, body string, want api.Errno) {
	t.Helper()
	if s, e := v.Get(digest); s != body || e != want {
		t.Errorf("Get(%x): %.20q (%d bytes), %d; must be %.20q (%d bytes), %d", digest, s, len(s), e, body, len(body), want)
	}
	if v.Has(digest) != (want == api.OK) {
		t.Errorf("Has(%x): %t", digest, want != api.OK)
	}
}

// lists checks what All tells.
func lists(t *testing.T, v *vault.Vault, want ...string) {
	t.Helper()
	if got := v.All(); !slices.Equal(got, want) {
		t.Errorf("All: %.200x; must be %.200x", got, want)
	}
}

// keeps checks what Keep answers.
func keeps(t *testing.T, v *vault.Vault, digests []string, n int, want api.Errno) {
	t.Helper()
	if got, e := v.Keep(digests...); got != n || e != want {
		t.Errorf("Keep(%d digests): %d, %d; must be %d, %d", len(digests), got, e, n, want)
	}
}

// lies checks that a disk has just these files, each as name and bytes, in any order.
func lies(t *testing.T, d *disk.Disk, files ...string) {
	t.Helper()
	looks(t, d, newDisk(t, api.MaxDisk, files...))
}

// looks checks that the files on two disks with power are alike.
func looks(t *testing.T, d, want *disk.Disk) {
	t.Helper()
	names := want.Names()
	if got := d.Names(); !slices.Equal(got, names) {
		t.Fatalf("files %.200q; must be %.200q", got, names)
	}
	for _, name := range names {
		s, e := d.Read(name)
		if other, no := want.Read(name); s != other || e != no {
			t.Fatalf("file %.70q: %.40q, %d; must be %.40q, %d", name, s, e, other, no)
		}
	}
}

// same checks that two disks are alike in all that a disk tells, and behind each crash.
func same(t *testing.T, d, want *disk.Disk) {
	t.Helper()
	if d.Off() != want.Off() || d.Pending() != want.Pending() || d.Used() != want.Used() {
		t.Fatalf("Off %t, Pending %d, Used %d; must be %t, %d, %d", d.Off(), d.Pending(), d.Used(), want.Off(), want.Pending(), want.Used())
	}
	looks(t, d, want)
	for k := range want.Pending() + 1 {
		got, must := d.Twin(), want.Twin()
		got.Crash(k)
		must.Crash(k)
		looks(t, got, must)
	}
}

// fuses sets the same fuse on disks.
func fuses(n int, l ...*disk.Disk) {
	for _, d := range l {
		d.Fuse(n)
	}
}
