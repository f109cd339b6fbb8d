package ckpt_test

import (
	"math"
	"slices"
	"testing"

	"treadle/api"
	"treadle/ckpt"
	"treadle/disk"
)

// kept is the names of a list that are not among others.
func kept(all, gone []string) []string {
	return slices.DeleteFunc(slices.Clone(all), func(s string) bool { return slices.Contains(gone, s) })
}

type collectCase struct {
	names []string
	m     api.Manifest
	has   bool
	gone  []string
}

func collectCases() []collectCase {
	two := of(2, 5, 9, 3, 8)
	one := of(1, 5, 9, 0, 0)
	all := []string{slowName(1), slowName(3), slowName(4), slowName(5), slowName(6), slowName(most), "manifest", "manifest.new", "x"}
	odd := []string{"ckpt-", "ckpt-000000000000", "ckpt-00000000000A", "ckpt-0000000000001", "ckpt-00000000001", "Ckpt-000000000001", "log-000000000001", "manifest", "manifest.", "manifest.ne", "manifest.new1", "manifest_new"}
	return []collectCase{
		{nil, none, false, nil},
		{nil, two, true, nil},
		{all, two, true, []string{slowName(1), slowName(4), slowName(6), slowName(most), "manifest.new"}},
		{all, one, true, []string{slowName(1), slowName(3), slowName(4), slowName(6), slowName(most), "manifest.new"}},
		{all, two, false, []string{slowName(1), slowName(3), slowName(4), slowName(5), slowName(6), slowName(most), "manifest.new"}},
		{all, none, false, []string{slowName(1), slowName(3), slowName(4), slowName(5), slowName(6), slowName(most), "manifest.new"}},
		{all, none, true, []string{slowName(1), slowName(3), slowName(4), slowName(5), slowName(6), slowName(most), "manifest.new"}},
		{all, of(1, most, 9, 1, 8), true, []string{slowName(3), slowName(4), slowName(5), slowName(6), "manifest.new"}},
		{all, of(-1, 6, -9, 6, math.MaxInt), true, []string{slowName(1), slowName(3), slowName(4), slowName(5), slowName(most), "manifest.new"}},
		{all, of(1, math.MinInt, 9, 4, 8), true, []string{slowName(1), slowName(3), slowName(5), slowName(6), slowName(most), "manifest.new"}},
		{all, of(1, 2, 4, math.MaxInt, 5), true, []string{slowName(1), slowName(3), slowName(4), slowName(5), slowName(6), slowName(most), "manifest.new"}},
		{odd, two, true, nil},
		{odd, none, false, nil},
		{[]string{slowName(3), slowName(5), "manifest"}, two, true, nil},
		{[]string{slowName(5), "manifest", "manifest.new"}, two, true, []string{"manifest.new"}},
		{[]string{"manifest.new"}, none, false, []string{"manifest.new"}},
		{[]string{slowName(1)}, none, false, []string{slowName(1)}},
	}
}

// P16.5: which names go and which stay, stroke by stroke; SyncNames always.
func TestCollect(t *testing.T) {
	for _, x := range collectCases() {
		p := paired(t, example(), empties(x.names...)...)
		p.plan(api.Plan{Reads: []api.Fault{{At: 1, Kind: api.FaultOff}}})
		if e := p.collect(x.m, x.has); e != api.OK || p.w.d.Strokes() != len(x.gone)+1 || p.w.d.Reads() != 0 {
			t.Errorf("P16.5: %q, %v: %v, %d strokes", x.names, x.m, e, p.w.d.Strokes())
		}
		p.w.names(t, sorted(kept(x.names, x.gone))...)
		if n, _ := p.w.d.Pending(); n != 0 {
			t.Errorf("P16.5: %d names are pending", n)
		}
		// Once more there is nothing to remove.
		p.plan(api.Plan{})
		if e := p.collect(x.m, x.has); e != api.OK || p.w.d.Strokes() != 1 {
			t.Errorf("P16.5: once more: %v, %d strokes", e, p.w.d.Strokes())
		}
	}
}

func sorted(names []string) []string {
	names = slices.Clone(names)
	slices.Sort(names)
	return names
}

// P16.5: each stroke fails in turn, in each way: those ahead of it are done, in the order of the names, and no other.
func TestCollectFails(t *testing.T) {
	for _, x := range collectCases() {
		gone := sorted(x.gone)
		for k := 1; k <= len(gone)+1; k++ {
			for _, f := range faults() {
				p := paired(t, example(), empties(x.names...)...)
				p.plan(failsAt(k, f.kind))
				if e := p.collect(x.m, x.has); e != f.e || p.w.d.Strokes() != k || p.w.d.Off() != (f.kind == api.FaultOff) {
					t.Errorf("P16.5: %q, stroke %d: %v, %d strokes", x.names, k, e, p.w.d.Strokes())
				}
				p.w.names(t, sorted(kept(x.names, gone[:k-1]))...)
				if n, _ := p.w.d.Pending(); n != k-1 {
					t.Errorf("P16.5: %d names are pending, not %d", n, k-1)
				}
				if f.kind == api.FaultOff {
					p.crash(api.Picks{Names: -1})
				}
				if e := p.collect(x.m, x.has); e != api.OK {
					t.Errorf("P16.5: once more: %v", e)
				}
				p.w.names(t, sorted(kept(x.names, gone))...)
			}
		}
	}
}

// P16.5: what is pending of the names is made safe, also where nothing is to be removed.
func TestCollectSyncs(t *testing.T) {
	w := newWorld(t, example())
	w.d.Create("x")
	w.d.Create(slowName(5))
	if e := ckpt.Collect(w.d, of(1, 5, 0, 0, 0), true); e != api.OK {
		t.Error(e)
	}
	w.d.Crash(api.Picks{})
	w.names(t, slowName(5), "x")
}

// P16.5: no disk; one that is off; one without a file.
func TestCollectRefused(t *testing.T) {
	for _, has := range []bool{false, true} {
		for _, m := range []api.Manifest{none, of(2, 5, 9, 3, 8)} {
			if e := ckpt.Collect(nil, m, has); e != api.ErrArg {
				t.Errorf("P16.5: %v", e)
			}
			w := newWorld(t, example(), empties(slowName(1), "manifest.new")...)
			off(t, w.d)
			was := sightOf(w)
			if e := ckpt.Collect(w.d, m, has); e != api.ErrOff {
				t.Errorf("P16.5: %v", e)
			}
			sameSight(t, "P16.5: ErrOff", sightOf(w), was)
			var zero disk.Disk
			if e := ckpt.Collect(&zero, m, has); e != api.OK || zero.Strokes() != 1 {
				t.Errorf("P16.5: of a zero disk: %v, %d strokes", e, zero.Strokes())
			}
		}
	}
}

// P16.5: while a Job is going on its file goes too, and its next Step fails.
func TestCollectWhileGoingOn(t *testing.T) {
	w := newWorld(t, example())
	j := w.begin(t, none, false, 7, 1)
	steps(t, j, 1, none, false, api.OK)
	if e := ckpt.Collect(w.d, none, false); e != api.OK || !w.values.Marked() || !w.procs.Marked() {
		t.Errorf("P16.5: %v", e)
	}
	w.names(t)
	steps(t, j, 1, none, false, api.ErrNone)
	w.free(t)
}
