package revive

import (
	"slices"

	"treadle/api"
	"treadle/ckpt"
	"treadle/disk"
	"treadle/manifest"
	"treadle/page"
	"treadle/seglog"
)

// refusal is what an opening gives up with: a type of its own, so that no other panic is taken for it.
type refusal struct{ why api.Errno }

// must gives up, if the disk has refused something.
func must(e api.Errno) {
	if e != api.OK {
		panic(refusal{e})
	}
}

// insist gives up, if the directory does not fit together.
func insist(holds bool) {
	if !holds {
		panic(refusal{api.ErrDamage})
	}
}

// opening is a directory as far as it was gone through.
type opening struct {
	disk     *disk.Disk
	names    []string
	segments []api.Segment // all of them, rising; one that was not read has the Size 0
	base     int           // the last transaction that is in the checkpoint
	next     int           // the number behind the last transaction so far
	torn     int           // bytes behind the last batch of the segment that was read last
}

// look begins an opening by the names there are.
func look(d *disk.Disk) *opening {
	names, e := d.List()
	must(e)
	return &opening{disk: d, names: names, segments: segmentsOf(names)}
}

func (o *opening) has(name string) bool { return slices.Contains(o.names, name) }

// read is the bytes of a file.
func (o *opening) read(name string) []byte {
	data, e := o.disk.Read(name)
	must(e)
	return data
}

// manifest is the one that counts, and whether there is one.
func (o *opening) manifest() (api.Manifest, bool) {
	if !o.has(manifest.Name) {
		return api.Manifest{}, false
	}
	m, e := manifest.Decode(o.read(manifest.Name))
	insist(e == api.OK)
	return m, true
}

// checkpoint is the one that a manifest names, or else the one ahead of it.
func (o *opening) checkpoint(m api.Manifest) api.Image {
	image, fits := o.image(m.File, m.Mark)
	if !fits && m.Prev > 0 && o.reaches(m.PrevMark) {
		image, fits = o.image(m.Prev, m.PrevMark)
	}
	insist(fits)
	return image
}

// image is what the checkpoint of a number says, and whether it is there and has that number and that mark.
func (o *opening) image(number, mark int) (api.Image, bool) {
	name := ckpt.Name(number)
	if !o.has(name) {
		return api.Image{}, false
	}
	image, e := page.Read(o.read(name))
	return image, e == api.OK && image.Number == number && image.Mark == mark
}

// reaches tells whether the log can go on from a mark: what follows an older one may have been trimmed.
func (o *opening) reaches(mark int) bool {
	return len(o.segments) > 0 && o.segments[0].First <= mark+1
}

// mend leaves the directory so that no crash makes another state of it: what was read of the last segment, and the names,
// need not have been safe. Behind bytes that are torn nothing would be found that is appended later, so they are cut off.
func (o *opening) mend() {
	if n := len(o.segments); n > 0 {
		last := o.segments[n-1]
		name := seglog.Name(last.First)
		if o.torn > 0 {
			must(o.disk.Truncate(name, last.Size))
		}
		must(o.disk.Sync(name))
	}
	must(o.disk.SyncNames())
}

// tells is what an opening that has gone through all found.
func (o *opening) tells() api.Opened {
	last := o.next - 1
	return api.Opened{Base: o.base, Last: last, Replayed: last - o.base, Torn: o.torn}
}
