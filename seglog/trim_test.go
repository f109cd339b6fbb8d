package seglog_test

import (
	"math"
	"slices"
	"testing"

	"treadle/api"
	"treadle/disk"
	"treadle/seglog"
)

// odd is segments 1, 3 and 5, with two transactions each but the last.
var odd = scene{1000, []int{2, 2, 1}, nil}

func oddFrom(first int) []api.Segment {
	all := []api.Segment{{First: 1, Size: 28}, {First: 3, Size: 28}, {First: 5, Size: 14}}
	return slices.DeleteFunc(all, func(s api.Segment) bool { return s.First < first })
}

// P13.6: the chapter's example, and each number about each segment's First.
func TestTrim(t *testing.T) {
	for upto, want := range map[int][]string{
		0: nil, 1: nil, 2: {"remove 1", "names"}, 3: {"remove 1", "names"},
		4: {"remove 1", "remove 3", "names"}, 5: {"remove 1", "remove 3", "names"}, 6: {"remove 1", "remove 3", "names"}, 100: {"remove 1", "remove 3", "names"},
		api.MaxNumber: {"remove 1", "remove 3", "names"}, math.MaxInt - 1: {"remove 1", "remove 3", "names"}, math.MaxInt: {"remove 1", "remove 3", "names"},
	} {
		deeds(t, strokesOf(t, func() (*disk.Disk, *seglog.Log) { return odd.build(t) }, func(l *seglog.Log) api.Errno { return l.Trim(upto) }), slices.Clone(want)...)
		p := odd.pair(t)
		if e := p.trim(upto); e != api.OK {
			t.Errorf("P13.6: Trim(%d): %v", upto, e)
		}
		first := 1 + 2*max(0, len(want)-1)
		tells(t, p.l, 6, 5, false, oddFrom(first)...)
		// Once more there is nothing to do.
		strokes := p.d.Strokes()
		if e := p.trim(upto); e != api.OK || p.d.Strokes() != strokes {
			t.Errorf("P13.6: once more: %v, %d strokes", e, p.d.Strokes()-strokes)
		}
		tells(t, p.l, 6, 5, false, oddFrom(first)...)
	}
}

// P13.6: one after the other on the same log.
func TestTrimUponTrim(t *testing.T) {
	p := odd.pair(t)
	for _, x := range []struct{ upto, first int }{{1, 1}, {2, 3}, {0, 3}, {3, 3}, {2, 3}, {4, 5}, {0, 5}, {math.MaxInt, 5}} {
		p.trim(x.upto)
		tells(t, p.l, 6, 5, false, oddFrom(x.first)...)
	}
	p.append(plain(1)...)
	p.flush()
	tells(t, p.l, 7, 6, false, api.Segment{First: 5, Size: 28})
}

// P13.6: upto below 0; W3: nothing changes.
func TestTrimRefused(t *testing.T) {
	for _, upto := range []int{-1, -2, -api.MaxNumber, math.MinInt} {
		p := odd.pair(t)
		if e := p.trim(upto); e != api.ErrArg || p.d.Strokes() != 0 {
			t.Errorf("P13.6: Trim(%d): %v, %d strokes", upto, e, p.d.Strokes())
		}
		tells(t, p.l, 6, 5, false, oddFrom(1)...)
		if e := started(t, wide(t), 1, nil, 1).Trim(upto); e != api.ErrArg {
			t.Errorf("P13.6: Trim(%d) without a segment: %v", upto, e)
		}
	}
}

// P13.6: no segment, or one: nothing is removed, whatever upto is.
func TestTrimFew(t *testing.T) {
	for _, s := range []scene{{100, nil, nil}, {100, []int{0}, nil}, {100, []int{3}, nil}, {100, nil, []int{1}}, {100, []int{1}, []int{1}}} {
		for _, upto := range []int{0, 1, 2, 3, 100, math.MaxInt} {
			p := s.pair(t)
			if e := p.trim(upto); e != api.OK || p.d.Strokes() != 0 {
				t.Errorf("P13.6: Trim(%d): %v, %d strokes", upto, e, p.d.Strokes())
			}
		}
	}
}

// P13.6: each stroke fails in turn: those that were removed ahead of it are gone, and the log is not broken.
func TestTrimFails(t *testing.T) {
	for _, f := range faults() {
		for k, first := range map[int]int{1: 1, 2: 3, 3: 5} {
			p := odd.pair(t)
			p.append(plain(1)...)
			p.plan(failsAt(k, f.kind))
			if e := p.trim(100); e != f.e || p.d.Strokes() != k {
				t.Errorf("P13.6: stroke %d: %v, %d strokes", k, e, p.d.Strokes())
			}
			tells(t, p.l, 7, 5, false, oddFrom(first)...)
			if f.kind == api.FaultOff {
				continue
			}
			// What waited waits; the next Trim goes on where this one has stopped.
			if e := p.trim(100); e != api.OK {
				t.Errorf("P13.6: once more: %v", e)
			}
			if e := p.flush(); e != api.OK {
				t.Errorf("P13.6: a Trim that failed breaks the log: %v", e)
			}
			tells(t, p.l, 7, 6, false, api.Segment{First: 5, Size: 28})
		}
	}
	// The power is off: nothing is a stroke, and the log is not broken by that.
	p := odd.pair(t)
	p.plan(failsAt(1, api.FaultOff))
	p.trim(2)
	if e := p.trim(2); e != api.ErrOff || p.d.Strokes() != 1 {
		t.Errorf("P13.6: %v", e)
	}
	tells(t, p.l, 6, 5, false, oddFrom(1)...)
	// A file that is not there.
	p = paired(t, 100, 5, 10, nil, []api.Segment{{First: 1}, {First: 2}}, 3)
	if e := p.trim(1); e != api.ErrNone || p.d.Strokes() != 0 {
		t.Errorf("P13.6: %v", e)
	}
	tells(t, p.l, 3, 2, false, api.Segment{First: 1}, api.Segment{First: 2})
}

// P13.6: what waits stays, and comes behind it; segments that a Flush has made are removed as the others are.
func TestTrimAmongFlushes(t *testing.T) {
	p := paired(t, 10000, 20, 1, nil, nil, 1)
	for range 3 {
		p.append(plain(2)...)
		p.append(plain(1)...)
		p.trim(3)
		p.flush()
		p.append(plain(1)...)
		p.trim(p.l.Next() - 4)
		p.trim(p.l.Durable())
		p.flush()
	}
	p.trim(math.MaxInt)
	if got := p.l.Segments(); len(got) != 1 || got[0].First != 12 {
		t.Errorf("P13.6: %v are left", got)
	}
	// Far up there.
	last := []api.Segment{{First: api.MaxNumber - 1}, {First: api.MaxNumber}}
	for upto, left := range map[int][]api.Segment{api.MaxNumber - 2: last, api.MaxNumber - 1: last[1:], api.MaxNumber: last[1:], math.MaxInt: last[1:]} {
		p := paired(t, 100, 5, 10, []api.FileBytes{{Name: "log-fffffffffffe"}, {Name: "log-ffffffffffff"}}, last, api.MaxNumber+1)
		p.trim(upto)
		tells(t, p.l, api.MaxNumber+1, api.MaxNumber, false, left...)
	}
}
