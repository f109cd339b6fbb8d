package disk

import "treadle/api"

// rule is what a call's row of the chapter's table asks for ahead of its count.
type rule struct {
	names  []string // each must be a name
	absent bool     // the first of them must be none of the disk's; else it must be one
	size   int      // its file must have as many bytes
}

// stroke does what the rows of all strokes have in common; what one row says behind the bar is do.
func (d *Disk) stroke(r rule, do func(*file) api.Errno) api.Errno {
	f, e := d.find(r)
	if e != api.OK {
		return e
	}
	if e := d.count(&d.strokes); e != api.OK {
		return e
	}
	return do(f)
}

// find is the file that a rule speaks of, if it speaks of one that is there; and the rule's errors, in their order.
func (d *Disk) find(r rule) (*file, api.Errno) {
	if d == nil {
		return nil, api.ErrArg
	}
	if d.off {
		return nil, api.ErrOff
	}
	for _, name := range r.names {
		if !isName(name) {
			return nil, api.ErrName
		}
	}
	if len(r.names) == 0 {
		return nil, api.OK
	}
	n, there := d.names[r.names[0]]
	switch {
	case r.absent && there:
		return nil, api.ErrExists
	case r.absent:
		return nil, api.OK
	case !there:
		return nil, api.ErrNone
	case r.size < 0 || r.size > len(d.living[n].now.data):
		return nil, api.ErrArg
	}
	return d.living[n], api.OK
}

// tally counts strokes, or readings, and knows which of them fail.
type tally struct {
	count int
	kinds map[int]int // of faults, by the number that is struck
}

// newTally begins at 0. A kind that is none is nothing, so it does not stand ahead of a later fault either.
func newTally(faults []api.Fault) tally {
	kinds := map[int]int{}
	for _, f := range faults {
		_, taken := kinds[f.At]
		if !taken && f.Kind >= api.FaultOff && f.Kind <= api.FaultFull {
			kinds[f.At] = f.Kind
		}
	}
	return tally{kinds: kinds}
}

// count counts one more, and answers the fault that is planned for it.
func (d *Disk) count(t *tally) api.Errno {
	t.count++
	switch t.kinds[t.count] {
	case api.FaultOff:
		d.off = true
		return api.ErrOff
	case api.FaultIO:
		return api.ErrIO
	case api.FaultFull:
		return api.ErrFull
	}
	return api.OK
}
