package journal

import (
	"posthorn/api"
	"posthorn/pack"
)

// reader makes a state of records. What is wrong with one ends the reading by a panic, from however deep.
type reader struct {
	left    *pack.Reader // what isn't read yet of a record
	state   state
	based   bool // whether the first record was read
	missing int  // bytes of the image that stand in no piece yet
}

// read reads the records of a file.
func read(bodies []string) (s state, e api.Errno) {
	defer func() {
		if recover() != nil {
			e = api.ErrForm
		}
	}()
	var r reader
	for _, body := range bodies {
		r.record(body)
	}
	r.must(r.whole())
	return r.state, api.OK
}

// record reads one. Where its numbers can't be read they are 0, which does no harm: the end tells of it.
func (r *reader) record(body string) {
	r.left = pack.Open(body)
	kind := r.left.Count(kindEntry)
	r.must(kind != 0)
	forms()[kind].read(r)
	r.must(r.left.End() == api.OK)
}

// must ends the reading, unless something is so.
func (r *reader) must(so bool) {
	if !so {
		panic(api.ErrForm)
	}
}

// whole says whether all that stands ahead of hard and entry records was read.
func (r *reader) whole() bool { return r.based && r.missing == 0 }

func (r *reader) base() {
	r.must(!r.based)
	r.based = true
	g := api.Log{Base: r.left.Num(), BaseTerm: r.left.Num()}
	for range r.left.Count(api.MaxNodes) {
		g.BaseConf = append(g.BaseConf, r.left.Count(api.MaxNodes))
	}
	r.must(rightBase(g))
	r.state.log = g
	r.missing = r.left.Count(api.MaxImage)
}

func (r *reader) piece() {
	r.must(r.missing > 0)
	s := r.left.Text(api.MaxPiece)
	r.must(len(s) == min(r.missing, api.MaxPiece))
	r.state.image += s
	r.missing -= len(s)
}

func (r *reader) hard() {
	r.must(r.whole())
	r.state.hard = api.Hard{Term: r.left.Num(), Vote: r.left.Count(api.MaxNodes), Life: r.left.Num()}
}

func (r *reader) entry() {
	r.must(r.whole())
	index := r.left.Num()
	x := api.Entry{Term: r.left.Num(), Kind: r.left.Count(api.EntMail), Data: r.left.Text(api.MaxData)}
	r.must(r.state.takes(index) && rightEntries([]api.Entry{x}))
	r.state.lay(index, x)
}
