package engine_test

import (
	"slices"
	"testing"

	"treadle/api"
	"treadle/disk"
	"treadle/engine"
)

// P18.3: what it answers; nothing waits: no stroke, and the last one that is durable.
func TestFlush(t *testing.T) {
	w := fresh(t)
	w.flush(0)
	w.submit(1, 2)
	w.submit(3, 3)
	w.shows("P18.2", api.Sight{Next: 4, Keys: len(at(3).values)})
	w.flush(3)
	w.shows("P18.3", api.Sight{Next: 4, Durable: 3, Keys: len(at(3).values)})
	strokes := w.d.Strokes()
	w.flush(3)
	w.flush(3)
	if w.d.Strokes() != strokes {
		t.Errorf("P18.3: %d strokes, though nothing waits", w.d.Strokes()-strokes)
	}
	off(t, w.d)
	w.flush(3) // it needs no power then
}

// goingOn is a world in which a checkpoint is going on, and two batches wait, of which the second one needs a segment of its own.
func goingOn(t testing.TB) world {
	w := dir{seg(1, 3)}.opened(t, api.Rules{Segment: len(rows(1, 3)) + len(rows(4, 3)), Page: 1, Workers: 2})
	w.start(api.OK)
	w.step(1, false, api.OK)
	w.submit(4, 6)
	w.submit(7, 8)
	return w
}

// P18.3: the strokes, each of which fails in turn, in each way: then the Engine is broken, and the checkpoint is dropped, its file staying as it is.
// If none fails the checkpoint is going on.
func TestFlushFails(t *testing.T) {
	keys := len(at(8).values)
	going := api.Sight{Next: 9, Durable: 3, Going: true, Mark: 3, Keys: keys}
	goingOn(t).shows("P18.3", going)
	strokesAre(t, "P18.3", func() world { return goingOn(t) }, flushing, []beat{
		lay(logName(1), rows(4, 3)), syncs(logName(1)), create(logName(7)), lay(logName(7), rows(7, 2)), syncs(logName(7)), syncsNames(),
	}, func(w world, k int, why string) {
		if k == 0 {
			w.shows(why, api.Sight{Next: 9, Durable: 8, Going: true, Mark: 3, Keys: keys})
			w.d.Plan(api.Plan{})
			w.end()
			w.shows(why, api.Sight{Next: 9, Durable: 8, Base: 3, Keys: keys})
			return
		}
		w.shows(why, api.Sight{Broken: true, Next: 9, Durable: 3, Keys: keys})
		w.has(why, at(8))
		if !slices.Contains(dir(w.d.Files()).names(), ckptName(1)) {
			t.Errorf("P18.3: %s: the checkpoint's file is gone", why)
		}
		w.d.Plan(api.Plan{})
		w.refuses(why, api.ErrBroken, flushing, submitting(history(9)), submitting(), starting, stepping(1), stepping(0), trimming)
		w.close()
		w.d.Crash(api.Picks{})
		again := open(t, w.d, usual)
		s := again.x.Sight()
		if s.Durable < 3 || s.Durable > 8 {
			t.Errorf("P18.13: %s: the last one is %d", why, s.Durable)
		}
		again.has("P18.13: "+why, at(s.Durable))
	})
}

// P18.3: a flush that fails with no checkpoint going on, and with a manifest: the base stays.
func TestFlushFailsWithBase(t *testing.T) {
	w := fresh(t)
	w.submit(1, 4)
	w.start(api.OK)
	w.end()
	w.submit(5, 6)
	w.d.Plan(strokeFails(1, api.FaultFull))
	if n, e := w.x.Flush(); n != 0 || e != api.ErrFull {
		t.Errorf("P18.3: %d, %v", n, e)
	}
	w.shows("P18.3", api.Sight{Broken: true, Next: 7, Durable: 4, Base: 4, Keys: len(at(6).values)})
	w.refuses("P18.3", api.ErrBroken, flushing, starting, stepping(1), trimming, submitting(history(7)))
}

// P18.3: no room, and no further file: the disk's own errors.
func TestFlushFull(t *testing.T) {
	for _, x := range []struct {
		room, files int
		e           api.Errno
	}{{len(rows(1, 3)), 1, api.OK}, {len(rows(1, 3)) - 1, 1, api.ErrFull}, {100000, 0, api.ErrFiles}} {
		d, e := disk.New(x.room, x.files)
		if e != api.OK {
			t.Fatal(e)
		}
		w := open(t, d, usual)
		w.submit(1, 3)
		n, e := w.x.Flush()
		if e != x.e || n != 3*one(e == api.OK) {
			t.Errorf("P18.3: room %d, %d files: %d, %v, not %v", x.room, x.files, n, e, x.e)
		}
		w.shows("P18.3", api.Sight{Broken: e != api.OK, Next: 4, Durable: n, Keys: len(at(3).values)})
		w.has("P18.3", at(3))
	}
}

func one(is bool) int {
	if is {
		return 1
	}
	return 0
}

// P18.3: a checkpoint that goes on over flushes says what was there when it was begun.
func TestFlushWhileGoing(t *testing.T) {
	w := fresh(t)
	w.submit(1, 6)
	w.start(api.OK)
	for n := 7; n < 14; n++ {
		w.submit(n, n)
		w.flush(n)
		w.shows("P18.3", api.Sight{Next: n + 1, Durable: n, Going: true, Mark: 6, Keys: len(at(n).values)})
	}
	w.end()
	if got, want := dir(w.d.Files()).bytes(ckptName(1)), image(1, 6, 2, at(6)); !slices.Equal(got, want) {
		t.Errorf("P0.7: the checkpoint is %x, not %x", got, want)
	}
	w.close()
	x, o, e := engine.Open(w.d, usual)
	if e != api.OK || o != (api.Opened{Base: 6, Last: 13, Replayed: 7}) {
		t.Fatalf("P18.1: %+v, %v", o, e)
	}
	world{t, w.d, x}.has("P18.10", at(13))
}
