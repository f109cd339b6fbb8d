package ckpt

import (
	"treadle/api"
	"treadle/disk"
	"treadle/manifest"
	"treadle/page"
)

// Job is a checkpoint that is being written.
type Job struct {
	disk   *disk.Disk // none, if it is not going on
	writer *page.Writer
	kinds  [2]kind
	most   int          // entries of a Step
	next   api.Manifest // what counts when it has come to its end
}

// begun is a Job whose file is there; both stores are marked.
func begun(d *disk.Disk, next api.Manifest, most int, kinds [2]kind) *Job {
	// Nothing to refuse: a file whose name the disk has taken has a number, and the mark was looked at.
	writer, _ := page.New(next.File, next.Mark)
	for _, k := range kinds {
		k.mark()
	}
	return &Job{d, writer, kinds, most, next}
}

// Step writes so many more entries; at the end it installs the checkpoint, and answers the manifest that counts then, and true.
func (j *Job) Step(n int) (api.Manifest, bool, api.Errno) {
	switch {
	case j == nil:
		return api.Manifest{}, false, api.ErrArg
	case !j.isGoingOn():
		return api.Manifest{}, false, api.ErrIdle
	case n < 1:
		return api.Manifest{}, false, api.ErrArg
	}
	goesOn := false
	defer func() {
		if !goesOn {
			j.letGo()
		}
	}()
	p, left := j.pull(min(n, j.most))
	if e := j.write(p, left); e != api.OK {
		return api.Manifest{}, false, e
	}
	if left {
		goesOn = true
		return api.Manifest{}, false, api.OK
	}
	is, e := manifest.Install(j.disk, j.next)
	if !is {
		return api.Manifest{}, false, e
	}
	return j.next, true, e // the names say so, even where that is not safe
}

// Drop gives the checkpoint up.
func (j *Job) Drop() {
	if j != nil && j.isGoingOn() {
		j.letGo()
	}
}

func (j *Job) isGoingOn() bool { return j.disk != nil }

// letGo ends a Job, however it has come to that; it keeps nothing then.
func (j *Job) letGo() {
	for _, k := range j.kinds {
		k.done()
	}
	*j = Job{}
}

// pull takes the next n entries, or as many as there are, and tells whether some are left behind them.
func (j *Job) pull(n int) (p piece, left bool) {
full:
	for _, k := range j.kinds {
		for k.left() {
			if p.size() == n {
				left = true
				break full
			}
			k.take(&p)
		}
	}
	return p, left
}

// write lays a piece into the file; if nothing is left behind it, the file is whole, and is made safe.
func (j *Job) write(p piece, left bool) (why api.Errno) {
	name := Name(j.next.File)
	defer func() {
		if why != api.OK {
			j.disk.Remove(name) // nobody will read it; if it stays, Collect takes it
		}
	}()
	b, why := j.bytesOf(p, left)
	if why != api.OK {
		return why
	}
	if why := j.disk.Append(name, b); why != api.OK || left {
		return why
	}
	return j.disk.Sync(name)
}

// bytesOf is a piece as bytes, with the file's end, if nothing is left behind it.
func (j *Job) bytesOf(p piece, left bool) (b []byte, why api.Errno) {
	if p.size() > 0 {
		b, why = j.writer.Page(p.procs, p.entries)
	}
	if why != api.OK || left {
		return b, why
	}
	end, why := j.writer.End()
	return append(b, end...), why
}
