package audit

import (
	"sort"
	"strings"

	"treadle/api"
	"treadle/ckpt"
	"treadle/manifest"
	"treadle/page"
	"treadle/seglog"
)

// damage is what a look gives up with: a type of its own, so that no other panic is taken for it.
type damage struct{}

// insist gives up, if the directory does not fit together.
func insist(holds bool) {
	if !holds {
		panic(damage{})
	}
}

// view is a directory as far as it was looked at.
type view struct {
	files    directory // those that were not read so far
	needed   []string  // those that were, in that order
	has      bool
	says     api.Manifest
	segments []api.Segment // all of them, rising; one that was not read has the Size 0
	base     int           // the last transaction that is in the checkpoint
	next     int           // the number behind the last transaction so far
	torn     int           // bytes behind the last batch of the segment that was read last
}

// viewOf is a directory of which nothing but the names was looked at.
func viewOf(files directory) *view {
	return &view{files: files, segments: files.segments()}
}

// read is the bytes of a file that has to be read, and whether there is one.
func (v *view) read(name string) ([]byte, bool) {
	data, is := v.files[name]
	if is {
		v.needed = append(v.needed, strings.Clone(name))
		delete(v.files, name)
	}
	return data, is
}

// manifest finds what the manifest says, if there is one.
func (v *view) manifest() {
	data, is := v.read(manifest.Name)
	if !is {
		return
	}
	m, e := manifest.Decode(data)
	insist(e == api.OK)
	v.says, v.has = m, true
}

// checkpoint finds the base, by the checkpoint that the manifest names, or else by the one ahead of it.
func (v *view) checkpoint() {
	m := v.says
	switch {
	case !v.has: // all there is stands in the log
	case v.fits(m.File, m.Mark):
		v.base = m.Mark
	case m.Prev > 0 && v.reaches(m.PrevMark) && v.fits(m.Prev, m.PrevMark):
		v.base = m.PrevMark
	default:
		panic(damage{})
	}
}

// fits tells whether the checkpoint of a number is there, is whole, and has that number and that mark.
func (v *view) fits(number, mark int) bool {
	data, is := v.read(ckpt.Name(number))
	if !is {
		return false
	}
	image, e := page.Read(data)
	return e == api.OK && image.Number == number && image.Mark == mark
}

// reaches tells whether the log can go on from a mark: what follows an older one may have been trimmed.
func (v *view) reaches(mark int) bool {
	return len(v.segments) > 0 && v.segments[0].First <= mark+1
}

// log finds the last transaction, and the bytes that are torn.
func (v *view) log() {
	behind := v.behind()
	v.next = v.base + 1
	if len(behind) > 0 {
		v.next = behind[0].First
	}
	for i := range behind {
		v.segment(&behind[i])
		insist(v.torn == 0 || i == len(behind)-1)
	}
	insist(v.next > v.base)
}

// behind is those of the segments in which there can be something behind the base.
// It is a piece of the list of all: what is learnt of a segment is laid there.
func (v *view) behind() []api.Segment {
	if len(v.segments) == 0 {
		return nil
	}
	above := sort.Search(len(v.segments), func(i int) bool { return v.segments[i].First > v.base+1 })
	insist(above > 0)
	return v.segments[above-1:]
}

// segment goes through the batches of a segment; behind them it is known what follows it, and what of it is torn.
func (v *view) segment(s *api.Segment) {
	data, _ := v.read(seglog.Name(s.First))
	insist(s.First == v.next) // so none follows one without a batch: their numbers are not the same
	for b, end := range seglog.Scan(data, s.First) {
		s.Size, v.next = end, b.First+len(b.Txns)
		insist(b.First > v.base || v.next <= v.base+1)
	}
	v.torn = len(data) - s.Size
}

// opened is what an opening that has gone through all tells.
func (v *view) opened() api.Opened {
	last := v.next - 1
	return api.Opened{Base: v.base, Last: last, Replayed: last - v.base, Torn: v.torn}
}
