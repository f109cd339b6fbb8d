package ckpt_test

import (
	"math"
	"slices"
	"testing"

	"treadle/api"
	"treadle/ckpt"
	"treadle/disk"
	"treadle/zigzag"
)

// The chapter's examples, in their order.
func TestExamples(t *testing.T) {
	w := newWorld(t, example())
	j := w.begin(t, none, false, 7, 2)
	w.names(t, "ckpt-000000000001")
	if w.d.Strokes() != 1 {
		t.Errorf("P16.2: %d strokes", w.d.Strokes())
	}
	w.beginFails(t, none, false, 7, 2, api.ErrBusy)
	steps(t, j, 1, none, false, api.OK)
	steps(t, j, 9, none, false, api.OK)
	w.d.Plan(api.Plan{})
	steps(t, j, 9, of(1, 1, 7, 0, 0), true, api.OK)
	if w.d.Strokes() != 7 {
		t.Errorf("P16.3: %d strokes", w.d.Strokes())
	}
	steps(t, j, 1, none, false, api.ErrIdle)
	w.free(t)
	w.names(t, "ckpt-000000000001", "manifest")
	for _, name := range []string{"ckpt-000000000009", "x"} {
		w.d.Hand(name, []byte{1})
	}
	w.d.Plan(api.Plan{})
	if e := ckpt.Collect(w.d, of(1, 1, 7, 0, 0), true); e != api.OK || w.d.Strokes() != 2 {
		t.Errorf("P16.5: %v, %d strokes", e, w.d.Strokes())
	}
	w.names(t, "ckpt-000000000001", "manifest", "x")
}

// outside is numbers that are no mark; badPages those that are no page.
func outside() []int { return []int{-1, most + 1, math.MinInt, math.MaxInt, -most} }

func badPages() []int { return []int{0, -1, 129, 256, math.MinInt, math.MaxInt} }

// P16.2: each argument that may not be, alone and with all that would be refused behind it; nothing has changed.
func TestBeginRefused(t *testing.T) {
	for _, scene := range []func(w world){
		func(w world) {},
		func(w world) { w.values.Mark() },
		func(w world) { w.procs.Mark() },
		func(w world) { off(t, w.d) },
		func(w world) { w.values.Mark(); w.procs.Mark(); off(t, w.d) },
		func(w world) { w.d.Hand(slowName(most), nil) },
		func(w world) { w.d.Plan(failsAt(1, api.FaultIO)) },
	} {
		for _, mark := range outside() {
			w := newWorld(t, example())
			scene(w)
			w.beginFails(t, none, false, mark, 2, api.ErrArg)
			w.beginFails(t, of(most, most, 1, 0, 0), true, mark, 0, api.ErrArg)
		}
		for _, page := range badPages() {
			w := newWorld(t, example())
			scene(w)
			w.beginFails(t, none, false, 7, page, api.ErrArg)
			w.beginFails(t, of(most, most, 1, 0, 0), true, 7, page, api.ErrArg)
		}
		for missing := 1; missing < 8; missing++ {
			whole := newWorld(t, example())
			scene(whole)
			was := sightOf(whole)
			w := whole
			if missing&1 != 0 {
				w.d = nil
			}
			if missing&2 != 0 {
				w.values = nil
			}
			if missing&4 != 0 {
				w.procs = nil
			}
			for _, mark := range []int{7, -1} {
				for _, page := range []int{2, 0} {
					if j, e := ckpt.Begin(w.d, w.values, w.procs, of(most, most, 1, 0, 0), true, mark, page); j != nil || e != api.ErrArg {
						t.Errorf("P16.2: without %b: %v, %v", missing, j, e)
					}
				}
			}
			sameSight(t, "P16.2: ErrArg", sightOf(whole), was)
		}
	}
}

// P16.2: marks and pages at their limits; zero stores; a zero disk has no file to give.
func TestBeginLimits(t *testing.T) {
	for _, mark := range []int{0, 1, most - 1, most} {
		for _, page := range []int{1, 2, 127, 128} {
			p := paired(t, example())
			if e := p.begin(none, false, mark, page); e != api.OK {
				t.Errorf("P16.2: mark %d, page %d: %v", mark, page, e)
			}
			toEnd(t, func(int) (api.Manifest, bool, api.Errno) { return p.step(math.MaxInt) })
			p.w.holds(t, "ckpt-000000000001", fileOf(t, 1, mark, page, example()))
		}
	}
	w := world{newDisk(t, 1000, 5), new(zigzag.Store[api.Value]), new(zigzag.Store[api.Proc])}
	steps(t, w.begin(t, none, false, 0, 1), 1, of(1, 1, 0, 0, 0), true, api.OK)
	w.d = new(disk.Disk)
	w.beginFails(t, none, false, 0, 1, api.ErrFiles)
}

// P16.2: one of the stores is marked, the other, both: by somebody, or by a Job that goes on; it stays so.
func TestBeginBusy(t *testing.T) {
	for marked := 1; marked < 4; marked++ {
		w := newWorld(t, example())
		if marked&1 != 0 {
			w.values.Mark()
		}
		if marked&2 != 0 {
			w.procs.Mark()
		}
		w.values.Put("a", num(9))
		w.procs.Delete("p")
		w.beginFails(t, none, false, 7, 2, api.ErrBusy)
		w.beginFails(t, of(most, most, 1, 0, 0), true, 7, 2, api.ErrBusy)
		w.d.Plan(failsAt(1, api.FaultIO))
		w.beginFails(t, none, false, 7, 2, api.ErrBusy)
		off(t, w.d)
		w.beginFails(t, none, false, 7, 2, api.ErrBusy)
		w.d.Crash(api.Picks{})
		w.values.Done()
		w.procs.Done()
		w.begin(t, none, false, 7, 2)
	}
	// One store of another world: that world's Job is not touched.
	w, other := newWorld(t, example()), newWorld(t, example())
	j := other.begin(t, none, false, 7, 1)
	world{w.d, w.values, other.procs}.beginFails(t, none, false, 7, 2, api.ErrBusy)
	world{w.d, other.values, w.procs}.beginFails(t, none, false, 7, 2, api.ErrBusy)
	if w.values.Marked() || w.procs.Marked() || w.d.Strokes() != 0 {
		t.Errorf("P16.2: marked by a Begin that was refused")
	}
	for range 3 {
		steps(t, j, 1, none, false, api.OK)
	}
	steps(t, j, 1, of(1, 1, 7, 0, 0), true, api.OK)
	world{w.d, w.values, other.procs}.begin(t, none, false, 7, 2)
}

// P16.2: a disk that is off: its List's error, ahead of ErrNumber; nothing is marked.
func TestBeginOff(t *testing.T) {
	for _, there := range [][]api.FileBytes{nil, empties("ckpt-000000000001"), empties(slowName(most))} {
		w := newWorld(t, example(), there...)
		off(t, w.d)
		w.beginFails(t, none, false, 7, 2, api.ErrOff)
		w.beginFails(t, of(most, 1, 1, 0, 0), true, 7, 2, api.ErrOff)
		w.beginFails(t, of(1, most, 1, 0, 0), true, 7, 2, api.ErrOff)
		w.free(t)
	}
}

// others is names that are no checkpoint's.
func others() []string {
	return []string{"ckpt-", "ckpt-00000000000A", "ckpt-0000000000ff0", "ckpt-000000000000", "ckpt-fffffffffff", "Ckpt-0000000000ff", "log-0000000000ff", "manifest", "manifest.new", "x"}
}

// P16.2: the checkpoint's number, by the manifest that was and by the names there are.
func TestBeginNumber(t *testing.T) {
	for _, x := range []struct {
		names []string
		was   api.Manifest
		has   bool
		file  int
		want  api.Errno
	}{
		{nil, none, false, 1, api.OK},
		{nil, of(5, 9, 8, 7, 6), false, 1, api.OK},
		{nil, of(most, most, most, 0, 0), false, 1, api.OK},
		{nil, of(math.MaxInt, math.MaxInt, 0, 0, 0), false, 1, api.OK},
		{nil, of(math.MinInt, math.MinInt, 0, 0, 0), false, 1, api.OK},
		{nil, of(5, 9, 8, 7, 6), true, 10, api.OK},
		{nil, of(5, 0, 0, 0, 0), true, 1, api.OK},
		{nil, none, true, 1, api.OK},
		{others(), none, false, 1, api.OK},
		{others(), of(5, 9, 8, 7, 6), true, 10, api.OK},
		{[]string{slowName(4)}, none, false, 5, api.OK},
		{[]string{slowName(4), slowName(2)}, none, false, 5, api.OK},
		{[]string{slowName(4)}, of(5, 9, 8, 7, 6), false, 5, api.OK},
		{[]string{slowName(4)}, of(5, 9, 8, 7, 6), true, 10, api.OK},
		{[]string{slowName(4), slowName(8), slowName(9)}, of(5, 9, 8, 7, 6), true, 10, api.OK},
		{[]string{slowName(4), slowName(10)}, of(5, 9, 8, 7, 6), true, 11, api.OK},
		{[]string{slowName(4), slowName(300), slowName(20)}, of(5, 9, 8, 7, 6), true, 301, api.OK},
		{append(others(), slowName(255), slowName(16)), of(5, 9, 8, 7, 6), true, 256, api.OK},
		{[]string{slowName(most - 1)}, none, false, most, api.OK},
		{[]string{slowName(most)}, none, false, 0, api.ErrNumber},
		{[]string{slowName(1), slowName(most)}, of(5, 9, 8, 7, 6), true, 0, api.ErrNumber},
		{nil, of(5, most-1, 8, 7, 6), true, most, api.OK},
		{nil, of(5, most, 8, 7, 6), true, 0, api.ErrNumber},
		{nil, of(5, most+1, 8, 7, 6), true, 0, api.ErrNumber},
		{nil, of(5, math.MaxInt, 8, 7, 6), true, 0, api.ErrNumber},
		{nil, of(most-1, 9, 8, 7, 6), true, 10, api.OK},
		{nil, of(most, 9, 8, 7, 6), true, 0, api.ErrNumber},
		{nil, of(most+1, 9, 8, 7, 6), true, 0, api.ErrNumber},
		{nil, of(math.MaxInt, 9, 8, 7, 6), true, 0, api.ErrNumber},
		{nil, of(most, most, 8, 7, 6), true, 0, api.ErrNumber},
		{[]string{slowName(most)}, of(5, 9, 8, 7, 6), false, 0, api.ErrNumber},
		// A manifest that cannot be: the greatest is what it says, and the disk refuses a name that is none.
		{nil, of(5, -1, 8, 7, 6), true, 0, api.ErrName},
		{nil, of(5, math.MinInt, 8, 7, 6), true, 0, api.ErrName},
		{others(), of(math.MinInt, -9, 8, 7, 6), true, 0, api.ErrName},
		{[]string{slowName(4)}, of(math.MinInt, -9, 8, 7, 6), true, 5, api.OK},
	} {
		p := paired(t, example(), empties(x.names...)...)
		if e := p.begin(x.was, x.has, 9, 2); e != x.want {
			t.Errorf("P16.2: %q, %v, %v: %v, not %v", x.names, x.was, x.has, e, x.want)
		}
		if x.want != api.OK {
			if p.w.d.Strokes() != 0 {
				t.Errorf("P16.2: %v, with a stroke", x.want)
			}
			newWorld(t, example(), empties(x.names...)...).beginFails(t, x.was, x.has, 9, 2, x.want)
			continue
		}
		all := append(slices.Clone(x.names), slowName(x.file))
		slices.Sort(all)
		p.w.names(t, all...)
		if p.w.d.Strokes() != 1 || p.w.d.Reads() != 0 {
			t.Errorf("P16.2: %d strokes, %d readings", p.w.d.Strokes(), p.w.d.Reads())
		}
	}
}

// P16.2: the names are those of now: what is removed counts no more, what is renamed counts as it is called, though a crash may bring both again.
func TestBeginPendingNames(t *testing.T) {
	w := newWorld(t, example(), empties(slowName(7), slowName(5))...)
	w.d.Remove(slowName(7))
	w.d.Rename(slowName(5), slowName(2))
	w.begin(t, none, false, 1, 1)
	w.names(t, slowName(2), slowName(3))
}

// P16.2: Create fails, in each way: its error, nothing is marked, no file; and then it goes through.
func TestBeginCreateFails(t *testing.T) {
	for _, f := range faults() {
		p := paired(t, example(), empties(slowName(4))...)
		p.plan(failsAt(1, f.kind))
		if e := p.begin(none, false, 7, 2); e != f.e || p.w.d.Strokes() != 1 {
			t.Errorf("P16.2: Create fails: %v, not %v", e, f.e)
		}
		p.w.free(t)
		p.w.names(t, slowName(4))
		if f.kind == api.FaultOff {
			p.crash(api.Picks{})
		}
		if e := p.begin(none, false, 7, 2); e != api.OK {
			t.Errorf("P16.2: once more: %v", e)
		}
		p.w.names(t, slowName(4), slowName(5))
	}
	w := worldOn(newDisk(t, 1000, 2, empties("x", "y")...), example())
	w.beginFails(t, none, false, 7, 2, api.ErrFiles)
	w.d.Remove("x")
	w.beginFails(t, none, false, 7, 2, api.ErrFiles)
	w.d.SyncNames()
	w.begin(t, none, false, 7, 2)
}

// P16.2: faults of readings, and of strokes that are not met, change nothing.
func TestBeginOnlyCreate(t *testing.T) {
	for _, f := range []api.Fault{{At: 2, Kind: api.FaultOff}, {At: 0, Kind: api.FaultIO}, {At: 1, Kind: 4}, {At: 1}} {
		w := newWorld(t, example())
		w.d.Plan(api.Plan{Strokes: []api.Fault{f}, Reads: []api.Fault{{At: 1, Kind: api.FaultOff}}})
		w.begin(t, none, false, 7, 2)
		if b, is := bytesOf(w.d.Files(), "ckpt-000000000001"); !is || len(b) > 0 || w.d.Off() {
			t.Errorf("P16.2: %v: %v, %x", f, is, b)
		}
	}
}
