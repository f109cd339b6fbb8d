package disk

import "treadle/api"

// row is bytes and, of each, whether a change brought it that is not safe.
// Changes come at the end alone, so what they brought stands behind all that is safe.
type row struct {
	data  []byte
	fresh []bool
}

// safeRow is a row of safe bytes, in memory of its own.
func safeRow(data []byte) row { return row{copied(data), make([]bool, len(data))} }

// lose takes from a sector what changes brought.
func (r row) lose(sector int) {
	from := sector * api.Sector
	for i := from; i < min(from+api.Sector, len(r.data)); i++ {
		if r.fresh[i] {
			r.data[i] = 0
		}
	}
}

// change is one that was done to a file and is not safe.
type change interface {
	// do works in the row's own memory.
	do(r row) row
}

// appended is bytes laid at the end.
type appended []byte

func (a appended) do(r row) row {
	r.data = append(r.data, a...)
	for range a {
		r.fresh = append(r.fresh, true)
	}
	return r
}

// cut is the size that is left.
type cut int

func (c cut) do(r row) row { return row{r.data[:c], r.fresh[:c]} }

// file is a file; its name may change.
type file struct {
	safe    []byte
	pending []change
	now     row // the safe bytes with all that is pending done
	peak    int // the greatest length behind the first so many pending changes
}

// newFile is a file of safe bytes.
func newFile(data []byte) *file {
	return &file{safe: copied(data), now: safeRow(data), peak: len(data)}
}

// pend does a change that a crash may undo.
func (f *file) pend(c change) {
	f.pending = append(f.pending, c)
	f.now = c.do(f.now)
	f.peak = max(f.peak, len(f.now.data))
}

// sync makes the bytes safe; it touches only those that are not, since a long file may be synced often.
func (f *file) sync() {
	kept := len(f.now.data)
	for kept > 0 && f.now.fresh[kept-1] {
		kept--
	}
	f.safe = append(f.safe[:kept], f.now.data[kept:]...)
	clear(f.now.fresh[kept:])
	f.pending = nil
	f.peak = len(f.safe)
}

// crash leaves what is picked, and answers the whole row.
func (f *file) crash(p api.Pick) []byte {
	r := safeRow(f.safe)
	for _, c := range f.pending[:round(p.Done, len(f.pending)+1)] {
		r = c.do(r)
	}
	whole := copied(r.data)
	if sectors := (len(r.data) + api.Sector - 1) / api.Sector; sectors > 0 {
		for _, v := range p.Lost {
			r.lose(round(v, sectors))
		}
	}
	*f = *newFile(r.data)
	return whole
}

// held is the bytes and the files that these are counted as.
func held(files map[int]*file) (bytes, count int) {
	for _, f := range files {
		bytes += f.peak
	}
	return bytes, len(files)
}

// copied is the same bytes in memory of their own.
func copied(data []byte) []byte {
	to := make([]byte, len(data))
	copy(to, data)
	return to
}

// round is v, counted round among n.
func round(v, n int) int { return (v%n + n) % n }
