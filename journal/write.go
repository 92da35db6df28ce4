package journal

import (
	"strings"

	"posthorn/api"
	"posthorn/pack"
	"posthorn/seal"
)

// The kinds of records.
const (
	kindBase  = 1
	kindPiece = 2
	kindHard  = 3
	kindEntry = 4
)

// record is what a frame's body says. Its kind says which of the others count.
type record struct {
	kind  int
	log   api.Log // its base, without its entries
	size  int     // how many bytes the image has
	piece string
	hard  api.Hard
	index uint64
	entry api.Entry
}

// form is how records of a kind are written and read.
type form struct {
	write func(r record) string
	read  func(r *reader)
}

// forms is those of all kinds, each at its number.
func forms() [kindEntry + 1]form {
	return [...]form{
		kindBase:  {record.writeBase, (*reader).base},
		kindPiece: {record.writePiece, (*reader).piece},
		kindHard:  {record.writeHard, (*reader).hard},
		kindEntry: {record.writeEntry, (*reader).entry},
	}
}

func (r record) writeBase() string {
	var conf []uint64
	for _, node := range r.log.BaseConf {
		conf = append(conf, uint64(node))
	}
	return pack.Num(r.log.Base) + pack.Num(r.log.BaseTerm) + pack.Nums(conf...) + pack.Num(uint64(r.size))
}

func (r record) writePiece() string { return pack.Text(r.piece) }

func (r record) writeHard() string {
	return pack.Num(r.hard.Term) + pack.Num(uint64(r.hard.Vote)) + pack.Num(r.hard.Life)
}

func (r record) writeEntry() string {
	return pack.Num(r.index) + pack.Num(r.entry.Term) + pack.Num(uint64(r.entry.Kind)) + pack.Text(r.entry.Data)
}

// frames is a row of frames that is being written.
type frames struct{ text strings.Builder }

// record writes one. A row that is too long for each disk grows no further, however much is asked for: it is refused as it is.
func (f *frames) record(r record) {
	if f.text.Len() > api.MaxDisk {
		return
	}
	body := pack.Num(uint64(r.kind)) + forms()[r.kind].write(r)
	frame, _ := seal.Frame(body) // no record has more bytes than a frame may have
	f.text.WriteString(frame)
}

// image writes an image's pieces.
func (f *frames) image(s string) {
	for at := 0; at < len(s); at += api.MaxPiece {
		f.record(record{kind: kindPiece, piece: s[at:min(at+api.MaxPiece, len(s))]})
	}
}

// entries writes entries from an index on.
func (f *frames) entries(from uint64, l []api.Entry) {
	for i, x := range l {
		f.record(record{kind: kindEntry, index: from + uint64(i), entry: x})
	}
}

// hardFrame is the frame of a hard record.
func hardFrame(h api.Hard) string {
	var f frames
	f.record(record{kind: kindHard, hard: h})
	return f.text.String()
}

// entryFrames is the frames of entries from an index on.
func entryFrames(from uint64, l []api.Entry) string {
	var f frames
	f.entries(from, l)
	return f.text.String()
}

// file is all of a state's file.
func (s *state) file() string {
	var f frames
	f.record(record{kind: kindBase, log: s.log, size: len(s.image)})
	f.image(s.image)
	f.record(record{kind: kindHard, hard: s.hard})
	f.entries(s.log.Base+1, s.log.L)
	return f.text.String()
}
