// Package pack is layer 1: numbers and texts as bytes. See shared/doc/01-pack.md.
package pack

import (
	"strings"

	"posthorn/api"
)

const (
	groupBits = 7    // bits of a number that a byte holds
	more      = 0x80 // stands in every byte of a number but the last
	topPlace  = 9    // the tenth byte holds the topmost bit of 64 alone
)

// Reader reads what was written.
type Reader struct {
	text  string
	at    int // where the next number begins; behind a fault, the fault's place
	fault api.Errno
}

// Num writes a number.
func Num(n uint64) string { return string(appendNum(nil, n)) }

// Text writes a text.
func Text(s string) string { return Num(uint64(len(s))) + s }

// Nums writes numbers.
func Nums(l ...uint64) string {
	b := appendNum(nil, uint64(len(l)))
	for _, n := range l {
		b = appendNum(b, n)
	}
	return string(b)
}

func appendNum(b []byte, n uint64) []byte {
	for n >= more {
		b = append(b, byte(n)|more)
		n >>= groupBits
	}
	return append(b, byte(n))
}

// Open begins to read.
func Open(s string) *Reader { return &Reader{text: s} }

// Num reads a number.
func (r *Reader) Num() uint64 {
	var p piece
	r.read(&p, p.number)
	return p.n
}

// Text reads a text.
func (r *Reader) Text(most int) string {
	p := piece{most: most}
	r.read(&p, p.number, p.bound, p.bytes)
	return p.text
}

// Count reads a number that says how many.
func (r *Reader) Count(most int) int {
	p := piece{most: most}
	r.read(&p, p.number, p.bound)
	return int(p.n)
}

// Left says how many bytes are left.
func (r *Reader) Left() int {
	if r == nil {
		return 0
	}
	return len(r.text) - r.at
}

// Fault says what went wrong, and where.
func (r *Reader) Fault() (api.Errno, int) {
	switch {
	case r == nil:
		return api.ErrArg, 0
	case r.fault == api.OK:
		return api.OK, 0
	}
	return r.fault, r.at
}

// End says whether all was read.
func (r *Reader) End() api.Errno {
	if r == nil {
		return api.ErrArg
	}
	if r.fault == api.OK && r.Left() > 0 {
		r.fault = api.ErrRest
	}
	return r.fault
}

// read reads a piece by steps, each of which tells what comes next of it. The
// reader moves on only behind the last step, so that a fault of any of them has
// its place where the piece's number began.
func (r *Reader) read(p *piece, steps ...func() api.Errno) {
	if r == nil || r.fault != api.OK {
		return
	}
	p.left = r.text[r.at:]
	for _, step := range steps {
		if e := step(); e != api.OK {
			r.fault = e
			*p = piece{}
			return
		}
	}
	r.at = len(r.text) - len(p.left)
}

// piece is something that is being read: a number, and the text that it may
// stand ahead of.
type piece struct {
	left string // what isn't passed yet
	most int    // how much the number may say
	n    uint64
	text string
}

func (p *piece) number() api.Errno {
	for i := 0; i < len(p.left); i++ {
		b := p.left[i]
		if i == topPlace && b > 1 {
			return api.ErrForm
		}
		if i > 0 && b == 0 { // a shorter form says the same
			return api.ErrForm
		}
		p.n |= uint64(b&^more) << (groupBits * i)
		if b < more {
			p.left = p.left[i+1:]
			return api.OK
		}
	}
	return api.ErrShort
}

func (p *piece) bound() api.Errno {
	if p.n > uint64(max(p.most, 0)) {
		return api.ErrLong
	}
	return api.OK
}

func (p *piece) bytes() api.Errno {
	if p.n > uint64(len(p.left)) {
		return api.ErrShort
	}
	p.text = strings.Clone(p.left[:p.n]) // a mere cut would hold all bytes that are read
	p.left = p.left[p.n:]
	return api.OK
}
