package engine_test

import (
	"slices"
	"testing"

	"treadle/api"
	"treadle/disk"
)

// waiting is a world with six transactions, three of which wait.
func waiting(t testing.TB) world {
	w := fresh(t)
	w.submit(1, 3)
	w.flush(3)
	w.submit(4, 6)
	w.d.Plan(api.Plan{})
	return w
}

// P18.5: the strokes of a Start with something to flush: those of the flush, and the checkpoint's Create; each fails in turn, in each way.
// If one of the flush fails, the Engine is broken; if Create fails, all is durable, no checkpoint is going on, and the next Start begins one.
func TestStartFails(t *testing.T) {
	keys := len(at(6).values)
	if len(rows(1, 3))+len(rows(4, 3)) <= usual.Segment {
		t.Fatal("the second batch needs no segment of its own")
	}
	strokesAre(t, "P18.5", func() world { return waiting(t) }, starting, []beat{
		create(logName(4)), lay(logName(4), rows(4, 3)), syncs(logName(4)), syncsNames(), create(ckptName(1)),
	}, func(w world, k int, why string) {
		switch k {
		case 0:
			w.shows(why, api.Sight{Next: 7, Durable: 6, Going: true, Mark: 6, Keys: keys})
			w.d.Plan(api.Plan{})
			w.refuses(why, api.ErrBusy, starting, trimming)
		case 5:
			w.shows(why, api.Sight{Next: 7, Durable: 6, Keys: keys})
			w.refuses(why, api.ErrIdle, stepping(1), stepping(0), trimming)
			if w.d.Off() {
				w.refuses(why, api.ErrOff, starting)
				return
			}
			w.d.Plan(api.Plan{})
			w.start(api.OK)
			w.shows(why, api.Sight{Next: 7, Durable: 6, Going: true, Mark: 6, Keys: keys})
			if w.d.Strokes() != 1 {
				t.Errorf("%s: %d strokes of the next one", why, w.d.Strokes())
			}
			w.end()
			w.shows(why, api.Sight{Next: 7, Durable: 6, Base: 6, Keys: keys})
		default:
			w.shows(why, api.Sight{Broken: true, Next: 7, Durable: 3, Keys: keys})
			w.refuses(why, api.ErrBroken, starting, stepping(1), trimming, flushing, submitting(history(7)))
		}
		w.has(why, at(6))
	})
}

// P18.5: nothing waits: one stroke, the Create.
func TestStartAlone(t *testing.T) {
	strokesAre(t, "P18.5", func() world {
		w := waiting(t)
		w.flush(6)
		return w
	}, starting, []beat{create(ckptName(1))}, func(w world, k int, why string) {
		want := api.Sight{Next: 7, Durable: 6, Keys: len(at(6).values)}
		if k == 0 {
			want.Going, want.Mark = true, 6
		}
		w.shows(why, want)
	})
}

// P18.5: the order of the errors: closed, broken, busy, the flush's, idle, those of Begin.
func TestStartOrder(t *testing.T) {
	// Busy, though something waits: it is not flushed.
	w := waiting(t)
	w.start(api.OK)
	w.refuses("P18.5", api.ErrBusy, starting)
	w.submit(7, 9)
	w.refuses("P18.5", api.ErrBusy, starting)
	// Busy ahead of the power.
	off(t, w.d)
	w.refuses("P18.5", api.ErrBusy, starting)
	// Broken ahead of all but closed.
	if n, e := w.x.Flush(); n != 0 || e != api.ErrOff {
		t.Fatalf("P18.3: %d, %v", n, e)
	}
	w.refuses("P18.5", api.ErrBroken, starting)
	w.close()
	w.refuses("P18.5", api.ErrClosed, starting)
	// Idle ahead of the power: nothing waits, and nothing is asked of the disk.
	w = fresh(t)
	off(t, w.d)
	w.refuses("P18.5", api.ErrIdle, starting)
	// The flush's error, where otherwise it would be idle.
	w = fresh(t)
	w.submit(1, 1)
	off(t, w.d)
	if e := w.x.Start(); e != api.ErrOff || !w.x.Sight().Broken {
		t.Errorf("P18.5: %v, %+v", e, w.x.Sight())
	}
}

// P18.5: idle with a manifest and without one; behind a further transaction there is something, be it one that gave up.
func TestStartIdle(t *testing.T) {
	w := fresh(t)
	w.refuses("P18.5", api.ErrIdle, starting)
	n := 0
	for range 4 {
		n++
		w.submit(n, n)
		w.start(api.OK)
		w.end()
		w.refuses("P18.5", api.ErrIdle, starting)
		w.shows("P18.5", api.Sight{Next: n + 1, Durable: n, Base: n, Keys: len(at(n).values)})
	}
	w.close()
	w = open(t, w.d, usual)
	w.refuses("P18.5", api.ErrIdle, starting)
	if _, l, e := w.x.Submit([]api.Txn{call("gone")}); e != api.OK || l[0].Status != api.StatusName {
		t.Fatal(l, e)
	}
	w.start(api.OK)
	w.shows("P18.5", api.Sight{Next: n + 2, Durable: n + 1, Base: n, Going: true, Mark: n + 1, Keys: len(at(n).values)})
	w.end()
	if m := w.manifestOf(); m != of(5, 5, 5, 4, 4) {
		t.Errorf("P18.6: %+v", m)
	}
}

// P18.5: each error of chapter 16's Begin: nothing has changed but what the flush has done.
func TestBeginFails(t *testing.T) {
	for _, x := range []struct {
		what  string
		files dir
		e     api.Errno
	}{
		{"no manifest's number is left", dir{man(of(most, 4, 1, 0, 0)), ck(4, 1), seg(1, 1)}, api.ErrNumber},
		{"no checkpoint's number is left", dir{man(of(1, most, 1, 0, 0)), ck(most, 1), seg(1, 1)}, api.ErrNumber},
		{"no checkpoint's number is left, by the names", dir{seg(1, 1), file(ckptName(most), nil)}, api.ErrNumber},
		{"the last numbers", dir{man(of(most-1, most-1, 1, 0, 0)), ck(most-1, 1), seg(1, 1)}, api.OK},
	} {
		w := x.files.opened(t, usual)
		base, keys := w.x.Sight().Base, w.x.Sight().Keys
		if e := w.x.Start(); base > 0 && e != api.ErrIdle || base == 0 && e != x.e {
			t.Errorf("P18.5: %s: %v", x.what, e)
		}
		w.submit(2, 3)
		w.start(x.e)
		keys += len(at(3).values)
		if x.e != api.OK {
			w.shows("P18.5: "+x.what, api.Sight{Next: 4, Durable: 3, Base: base, Keys: keys})
			w.refuses("P18.5: "+x.what, x.e, starting)
			w.refuses("P18.5: "+x.what, api.ErrIdle, stepping(1))
			w.submit(4, 5)
			w.flush(5)
			continue
		}
		w.end()
		if m := w.manifestOf(); m != of(most, most, 3, most-1, 1) {
			t.Errorf("P18.6: %+v", m)
		}
		w.submit(4, 5)
		w.start(api.ErrNumber)
		w.shows("P18.5: "+x.what, api.Sight{Next: 6, Durable: 5, Base: 3, Keys: w.x.Sight().Keys})
	}
}

// P18.5: no room for a further file: the disk's own error; when there is room again it begins.
func TestStartFiles(t *testing.T) {
	d, _ := disk.New(100000, 2)
	if e := d.Hand("x", nil); e != api.OK {
		t.Fatal(e)
	}
	w := open(t, d, usual)
	w.submit(1, 3)
	for range 2 {
		w.start(api.ErrFiles)
		w.shows("P18.5", api.Sight{Next: 4, Durable: 3, Keys: len(at(3).values)})
	}
	if d.Remove("x") != api.OK || d.SyncNames() != api.OK {
		t.Fatal("x is not removed")
	}
	w.start(api.OK)
	w.shows("P18.5", api.Sight{Next: 4, Durable: 3, Going: true, Mark: 3, Keys: len(at(3).values)})
}

// P18.5: rules.Page holds a step to so many entries.
func TestStartPage(t *testing.T) {
	s := at(9)
	size := len(s.procs) + len(s.values)
	for _, limit := range []int{1, 2, 3, size - 1, size, 128} {
		for _, n := range []int{1, 2, 3, 128, 1 << 40} {
			w := dir{}.opened(t, api.Rules{Segment: 1000, Page: limit, Workers: 1})
			w.submit(1, 9)
			w.start(api.OK)
			each := min(limit, n)
			for left := size; left > each; left -= each {
				w.step(n, false, api.OK)
			}
			w.step(n, true, api.OK)
			if got, want := dir(w.d.Files()).bytes(ckptName(1)), image(1, 9, each, s); !slices.Equal(got, want) {
				t.Errorf("P18.5: page %d, Step(%d): the checkpoint is %x, not %x", limit, n, got, want)
			}
		}
	}
}

// P18.5: the number of a checkpoint is above those that were dropped or have failed, as their files stay.
func TestStartNumbers(t *testing.T) {
	w := fresh(t)
	w.submit(1, 3)
	w.start(api.OK)
	w.step(1, false, api.OK)
	w.close()
	for k := 2; k < 5; k++ {
		w = open(t, w.d, usual)
		w.start(api.OK)
		if names := dir(w.d.Files()).names(); !slices.Contains(names, ckptName(k)) {
			t.Errorf("P18.5: %v", names)
		}
		w.close()
	}
	w = open(t, w.d, usual)
	w.start(api.OK)
	w.end()
	if m := w.manifestOf(); m != of(1, 5, 3, 0, 0) {
		t.Errorf("P18.6: %+v", m)
	}
	w.trim(api.OK)
	if names := dir(w.d.Files()).names(); !slices.Equal(names, []string{ckptName(5), logName(1), "manifest"}) {
		t.Errorf("P18.7: %v", names)
	}
}
