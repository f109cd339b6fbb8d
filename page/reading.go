package page

import (
	"treadle/api"
	"treadle/datum"
	"treadle/frame"
	"treadle/octet"
	"treadle/proc"
)

// refusal is what Read gives up with: a type of its own, so that no other panic is taken for it.
type refusal struct{ why api.Errno }

// insist gives up, if a body is not what it has to be.
func insist(holds bool) {
	if !holds {
		panic(refusal{api.ErrForm})
	}
}

// reading is a file as far as it was read.
type reading struct {
	image     api.Image
	frames    int    // that were read
	name, key string // the last ones
	ended     bool   // the end's frame was read
}

// says reads what a body has behind its kind and its place. What cannot be taken of it is zero there,
// and told when all is read: whatever is wrong with a body, the error is the same.
type says func(r *reading, body *octet.Reader)

// sayings is what a frame of each kind says.
func sayings() map[byte]says {
	return map[byte]says{
		kindHead:    (*reading).head,
		kindProc:    (*reading).procedure,
		kindEntries: (*reading).all,
		kindEnd:     (*reading).end,
	}
}

// imageOf is what a file's bytes say.
func imageOf(b []byte) api.Image {
	r, by := &reading{}, sayings()
	at := 0
	for !r.ended {
		row, behind := frameAt(b, at)
		r.take(by, octet.Read(row))
		at = behind
	}
	insist(at == len(b))
	return r.image
}

// frameAt is the body of the frame at a place, and the place behind it.
func frameAt(b []byte, at int) ([]byte, int) {
	row, behind, e := frame.Next(b, at)
	switch e {
	case api.OK:
		return row, behind
	case api.ErrEnd:
		panic(refusal{api.ErrShort})
	}
	panic(refusal{e})
}

// take reads a body by its kind.
func (r *reading) take(by map[byte]says, body *octet.Reader) {
	kind := body.Byte()
	read, is := by[kind]
	insist(is && (kind == kindHead) == (r.frames == 0))
	insist(body.Number() == r.frames)
	read(r, body)
	insist(body.End() == api.OK)
	r.frames++
}

func (r *reading) head(body *octet.Reader) {
	r.image.Number, r.image.Mark = body.Number(), body.Number()
	insist(isNumber(r.image.Number) && isMark(r.image.Mark))
}

func (r *reading) procedure(body *octet.Reader) {
	p, e := proc.Decode([]byte(body.Text(api.MaxBody))) // no text in a body is longer
	insist(e == api.OK && p.Name > r.name && len(r.image.Entries) == 0)
	r.name = p.Name
	r.image.Procs = append(r.image.Procs, p)
}

func (r *reading) all(body *octet.Reader) {
	n := body.Number()
	insist(isPage(n))
	for range n {
		r.entry(body)
	}
}

func (r *reading) entry(body *octet.Reader) {
	key := body.Text(api.MaxKey)
	v, e := datum.Decode([]byte(body.Text(api.MaxBody)))
	insist(datum.IsKey(key) && key > r.key)
	insist(e == api.OK && v.Kind != api.KindNone)
	r.key = key
	r.image.Entries = append(r.image.Entries, api.Entry{Key: key, Value: v})
}

func (r *reading) end(body *octet.Reader) {
	insist(body.Number() == len(r.image.Procs) && body.Number() == len(r.image.Entries))
	r.ended = true
}
