package engine_test

import (
	"fmt"
	"math"
	"slices"
	"testing"

	"treadle/api"
	"treadle/engine"
)

// The marks of the two checkpoints of second, and the last transaction that is there.
const (
	firstMark  = 6
	secondMark = 18
	last       = 19
)

// second is a world in which a second checkpoint is going on; the first one has come to its end; one transaction waits.
func second(t testing.TB) world {
	w := fresh(t)
	w.submit(1, firstMark)
	w.start(api.OK)
	w.end()
	w.submit(firstMark+1, secondMark)
	w.start(api.OK)
	w.submit(last, last)
	return w
}

// brinked is the same with one step left.
func brinked(t testing.TB) world {
	w := second(t)
	w.brink(at(secondMark))
	return w
}

// P18.6: entries are left: one stroke, and false; if it fails, the error, and no checkpoint is going on, all else being as it was.
func TestStepLeft(t *testing.T) {
	keys := len(at(last).values)
	build := func() world {
		w := second(t)
		w.step(2, false, api.OK)
		return w
	}
	had := len(dir(build().d.Files()).bytes(ckptName(2)))
	next := build()
	next.step(2, false, api.OK)
	piece := image(2, secondMark, 2, at(secondMark))[had:len(dir(next.d.Files()).bytes(ckptName(2)))]
	strokesAre(t, "P18.6", build, stepping(2), []beat{lay(ckptName(2), piece).elseRemove(ckptName(2))}, func(w world, k int, why string) {
		want := api.Sight{Next: last + 1, Durable: secondMark, Base: firstMark, Keys: keys}
		if k == 0 {
			want.Going, want.Mark = true, secondMark
		}
		w.shows(why, want)
		w.has(why, at(last))
		if k == 0 || w.d.Off() {
			return
		}
		w.d.Plan(api.Plan{})
		w.refuses(why, api.ErrIdle, stepping(1), stepping(0))
		// Its file is removed, so the next one has its number.
		w.flush(last)
		w.start(api.OK)
		w.end()
		if m := w.manifestOf(); m != of(2, 2, last, 1, firstMark) {
			t.Errorf("%s: %+v", why, m)
		}
		w.shows(why, api.Sight{Next: last + 1, Durable: last, Base: last, Keys: keys})
	})
}

// P18.6: the last step: its strokes, each of which fails in turn, in each way; which manifest counts from then on, and which base.
func TestStepEnd(t *testing.T) {
	keys := len(at(last).values)
	whole := image(2, secondMark, 2, at(secondMark))
	piece := whole[len(dir(brinked(t).d.Files()).bytes(ckptName(2))):]
	beats := append([]beat{
		lay(ckptName(2), piece).elseRemove(ckptName(2)),
		syncs(ckptName(2)).elseRemove(ckptName(2)),
	}, installs(of(2, 2, secondMark, 1, firstMark))...)
	strokesAre(t, "P18.6", func() world { return brinked(t) }, stepping(9), beats, func(w world, k int, why string) {
		want := api.Sight{Next: last + 1, Durable: secondMark, Base: firstMark, Keys: keys}
		if k == 0 {
			want.Base = secondMark
		}
		w.shows(why, want)
		w.has(why, at(last))
		w.refuses(why, api.ErrIdle, stepping(1), stepping(0), stepping(math.MinInt))
		if !w.d.Off() {
			w.d.Plan(api.Plan{})
			counts(w, why, k)
		}
	})
}

// counts asks which manifest counts behind the last step, of which that stroke has failed (0: none has): the next checkpoint tells.
func counts(w world, why string, k int) {
	t := w.t
	t.Helper()
	keys := len(at(last).values)
	base := w.x.Sight().Base
	w.start(api.OK)
	w.shows(why, api.Sight{Next: last + 1, Durable: last, Base: base, Going: true, Mark: last, Keys: keys})
	w.end()
	var want api.Manifest
	switch k {
	case 1, 2: // its file was removed, so the number is free
		want = of(2, 2, last, 1, firstMark)
	case 0, 7: // it counts
		want = of(3, 3, last, 2, secondMark)
	default:
		want = of(2, 3, last, 1, firstMark)
	}
	if m := w.manifestOf(); m != want {
		t.Errorf("%s: %+v, not %+v", why, m, want)
	}
	w.shows(why, api.Sight{Next: last + 1, Durable: last, Base: last, Keys: keys})
}

// P18.6: a manifest that is told with an error counts from then on, and the base is as it was: there is nothing for another one at its Mark,
// the next one stands behind it, Trim makes its Mark the base; and so does the end of the next one.
func TestToldWithError(t *testing.T) {
	keys := len(at(6).values)
	for _, f := range faults() {
		told := func() world {
			w := fresh(t)
			w.submit(1, 3)
			w.start(api.OK)
			w.end()
			w.submit(4, 6)
			w.start(api.OK)
			w.brink(at(6))
			w.d.Plan(strokeFails(7, f.kind))
			w.step(9, false, f.e)
			w.shows("P18.6", api.Sight{Next: 7, Durable: 6, Base: 3, Keys: keys})
			w.refuses("P18.6", api.ErrIdle, starting, stepping(1))
			if f.kind != api.FaultOff {
				w.d.Plan(api.Plan{})
			}
			return w
		}
		if f.kind == api.FaultOff {
			w := told()
			w.refuses("P18.7: no power", api.ErrOff, trimming)
			w.flush(6)
			continue
		}
		w := told()
		w.trim(api.OK)
		w.shows("P18.7", api.Sight{Next: 7, Durable: 6, Base: 6, Keys: keys})
		w.refuses("P18.5", api.ErrIdle, starting)
		w = told()
		w.submit(7, 7)
		w.start(api.OK)
		w.shows("P18.5", api.Sight{Next: 8, Durable: 7, Base: 3, Going: true, Mark: 7, Keys: len(at(7).values)})
		w.end()
		if m := w.manifestOf(); m != of(3, 3, 7, 2, 6) {
			t.Errorf("P18.6: %+v", m)
		}
		w.shows("P18.6", api.Sight{Next: 8, Durable: 7, Base: 7, Keys: len(at(7).values)})
		// The next one fails: the one that was told still counts, and the base is still as it was.
		w = told()
		w.submit(7, 7)
		w.start(api.OK)
		w.d.Plan(strokeFails(1, f.kind))
		w.step(1, false, f.e)
		w.shows("P18.6", api.Sight{Next: 8, Durable: 7, Base: 3, Keys: len(at(7).values)})
		w.trim(api.OK)
		w.shows("P18.7", api.Sight{Next: 8, Durable: 7, Base: 6, Keys: len(at(7).values)})
		// A crash may take it back, or not.
		for names := range 2 {
			w = told()
			w.close()
			if pending, _ := w.d.Pending(); pending < 2 {
				t.Fatalf("P18.6: %d changes of the names are pending", pending)
			}
			w.d.Crash(api.Picks{Names: -1 - names})
			x, o, e := engine.Open(w.d, usual)
			base := 6 - 3*names
			if e != api.OK || o != (api.Opened{Base: base, Last: 6, Replayed: 6 - base}) {
				t.Fatalf("P18.6: a crash takes %d changes back: %+v, %v", names, o, e)
			}
			world{t, w.d, x}.has("P18.6", at(6))
		}
	}
}

// P18.6: the first checkpoint of all is told with an error: it counts, with the base 0.
func TestFirstToldWithError(t *testing.T) {
	w := fresh(t)
	w.submit(1, 3)
	w.start(api.OK)
	w.brink(at(3))
	w.d.Plan(strokeFails(7, api.FaultIO))
	w.step(2, false, api.ErrIO)
	w.shows("P18.6", api.Sight{Next: 4, Durable: 3, Keys: len(at(3).values)})
	w.d.Plan(api.Plan{})
	w.refuses("P18.5", api.ErrIdle, starting)
	w.trim(api.OK)
	w.shows("P18.7", api.Sight{Next: 4, Durable: 3, Base: 3, Keys: len(at(3).values)})
}

// P18.6: the order of the errors: closed, broken, idle, and those of chapter 16's Step; what it refuses lets the checkpoint go on.
func TestStepOrder(t *testing.T) {
	w := fresh(t)
	bad := []int{0, -1, math.MinInt}
	each := func(why string, want api.Errno, numbers ...int) {
		t.Helper()
		for _, n := range numbers {
			w.refuses(why, want, stepping(n))
		}
	}
	each("P18.6: none is going on", api.ErrIdle, append(bad, 1, 128, math.MaxInt)...)
	w.submit(1, 6)
	w.start(api.OK)
	each("P18.6: a number below 1", api.ErrArg, bad...)
	w.step(1, false, api.OK)
	each("P18.6: a number below 1", api.ErrArg, bad...)
	w.end()
	each("P18.6: it has ended", api.ErrIdle, append(bad, 1)...)
	w.submit(7, 7)
	w.start(api.OK)
	w.submit(8, 8)
	off(t, w.d)
	each("P18.6: a number below 1, no power", api.ErrArg, bad...)
	if n, e := w.x.Flush(); n != 0 || e != api.ErrOff {
		t.Fatalf("P18.3: %d, %v", n, e)
	}
	each("P18.6: broken", api.ErrBroken, append(bad, 1)...)
	w.close()
	each("P18.6: closed", api.ErrClosed, append(bad, 1)...)
}

// P18.6: a checkpoint without an entry, and numbers of all sizes; the end comes once.
func TestStepNumbers(t *testing.T) {
	w := fresh(t)
	if _, _, e := w.x.Submit([]api.Txn{call("gone")}); e != api.OK {
		t.Fatal(e)
	}
	w.start(api.OK)
	w.step(1, true, api.OK)
	w.step(1, false, api.ErrIdle)
	if got, want := dir(w.d.Files()).bytes(ckptName(1)), image(1, 1, 1, newState()); !slices.Equal(got, want) {
		t.Errorf("P18.6: the checkpoint is %x, not %x", got, want)
	}
	for _, n := range []int{1, 2, 3, 128, 129, math.MaxInt} {
		w := dir{}.opened(t, api.Rules{Segment: 1, Page: 128})
		w.submit(1, 60)
		w.start(api.OK)
		s := at(60)
		for left := len(s.procs) + len(s.values); left > n; left -= n {
			w.step(n, false, api.OK)
		}
		w.step(n, true, api.OK)
		w.step(n, false, api.ErrIdle)
		w.shows("P18.6", api.Sight{Next: 61, Durable: 60, Base: 60, Keys: len(s.values)})
	}
}

// P18.6, P0.7: what the file says is the state at the mark, whatever is run, flushed, and read between the steps.
func TestHeld(t *testing.T) {
	for mark := 1; mark < 30; mark++ {
		w := fresh(t)
		w.submit(1, mark)
		w.start(api.OK)
		n := mark
		for done := false; !done; {
			w.submit(n+1, n+2)
			n += 2
			if n%3 == 0 {
				w.flush(n)
			}
			var e api.Errno
			if done, e = w.x.Step(1); e != api.OK {
				t.Fatalf("P18.6: %v", e)
			}
			w.has("P18.10", at(n))
		}
		if got, want := dir(w.d.Files()).bytes(ckptName(1)), image(1, mark, 1, at(mark)); !slices.Equal(got, want) {
			t.Errorf("P0.7: the checkpoint of the Mark %d is %x, not %x", mark, got, want)
		}
		w.flush(n)
		w.trim(api.OK)
		w.close()
		x, o, e := engine.Open(w.d, usual)
		if e != api.OK || o != (api.Opened{Base: mark, Last: n, Replayed: n - mark}) {
			t.Fatalf("P18.6: %+v, %v", o, e)
		}
		world{t, w.d, x}.has(fmt.Sprint("P18.10: opened behind ", n), at(n))
	}
}

// P18.6: no room: the step fails with the disk's own error, and the Engine goes on without it.
func TestStepFull(t *testing.T) {
	w := second(t)
	bytes, _ := w.d.Held()
	if e := w.d.Hand("x", make([]byte, 100000-bytes)); e != api.OK {
		t.Fatal(e)
	}
	w.d.Plan(api.Plan{})
	w.step(2, false, api.ErrFull)
	w.shows("P18.6", api.Sight{Next: last + 1, Durable: secondMark, Base: firstMark, Keys: len(at(last).values)})
	w.has("P18.6", at(last))
	if e := w.d.Remove("x"); e != api.OK {
		t.Fatal(e)
	}
	w.d.SyncNames()
	w.start(api.OK)
	w.end()
	w.shows("P18.6", api.Sight{Next: last + 1, Durable: last, Base: last, Keys: len(at(last).values)})
}
