package seglog

import "treadle/api"

// part is what one segment gets in a flush.
type part struct {
	first    int  // the segment's
	fresh    bool // it has to be created
	gathered []byte
}

// parts is what waits, laid out over the last segment and those that have to come behind it.
func (l *Log) parts() []part {
	var parts []part
	size := 0 // of the segment of the last part
	if n := len(l.segments); n > 0 {
		parts = append(parts, part{first: l.segments[n-1].First})
		size = l.segments[n-1].Size
	}
	for _, w := range l.waiting {
		if len(parts) == 0 || size > 0 && size+len(w.frame) > l.limit {
			parts = append(parts, part{first: w.first, fresh: true})
			size = 0
		}
		parts[len(parts)-1].gather(w.frame)
		size += len(w.frame)
	}
	return parts
}

// gather adds a frame to a part.
func (p *part) gather(sealed []byte) {
	if len(p.gathered) == 0 {
		// Cut to its length: what comes behind it has to go into other memory than the frame's.
		p.gathered = sealed[:len(sealed):len(sealed)]
		return
	}
	p.gathered = append(p.gathered, sealed...)
}

// strokes is what a flush does, stroke by stroke.
func (l *Log) strokes(parts []part) []func() api.Errno {
	var all []func() api.Errno
	created := false
	for _, p := range parts {
		name := Name(p.first)
		if p.fresh {
			created = true
			all = append(all, func() api.Errno { return l.create(name, p.first) })
		}
		if len(p.gathered) > 0 {
			all = append(all,
				func() api.Errno { return l.lay(name, p.gathered) },
				func() api.Errno { return l.disk.Sync(name) })
		}
	}
	if created {
		all = append(all, func() api.Errno { return l.disk.SyncNames() })
	}
	return all
}

// create makes a new last segment; one that cannot be created is none.
func (l *Log) create(name string, first int) api.Errno {
	e := l.disk.Create(name)
	if e == api.OK {
		l.segments = append(l.segments, api.Segment{First: first})
	}
	return e
}

// lay writes what is gathered for the last segment. It counts to its Size whether the disk takes it or not.
func (l *Log) lay(name string, gathered []byte) api.Errno {
	l.segments[len(l.segments)-1].Size += len(gathered)
	return l.disk.Append(name, gathered)
}
