package engine_test

import (
	"slices"
	"testing"

	"treadle/api"
	"treadle/disk"
	"treadle/engine"
)

// laden is a world with three checkpoints that came to their end, one that was dropped, and a log in many segments.
func laden(t testing.TB) world {
	w := dir{}.opened(t, api.Rules{Segment: 1, Page: 128, Workers: 2})
	for n := 1; n <= 9; n++ {
		w.submit(n, n)
		w.flush(n)
		if n%2 == 0 && n < 8 {
			w.start(api.OK)
			w.end()
		}
	}
	w.start(api.OK)
	w.close()
	w = open(t, w.d, api.Rules{Segment: 1, Page: 128, Workers: 2})
	w.submit(10, 10)
	return w
}

// P18.7: its strokes: what the manifest does not name is removed, the names are made safe, then the segments up to the base; each fails in turn, in each way.
// Nothing is broken by it: the next one goes through.
func TestTrimFails(t *testing.T) {
	keys := len(at(10).values)
	want := api.Sight{Next: 11, Durable: 9, Base: 6, Keys: keys}
	laden(t).shows("P18.7", want)
	beats := []beat{remove(ckptName(1)), remove(ckptName(4)), syncsNames()}
	for n := 1; n <= 6; n++ {
		beats = append(beats, remove(logName(n)))
	}
	beats = append(beats, syncsNames())
	strokesAre(t, "P18.7", func() world { return laden(t) }, trimming, beats, func(w world, k int, why string) {
		w.shows(why, want)
		w.has(why, at(10))
		if w.d.Off() {
			w.refuses(why, api.ErrOff, trimming)
			return
		}
		w.d.Plan(api.Plan{})
		w.trim(api.OK)
		w.shows(why, want)
		if names := dir(w.d.Files()).names(); !slices.Equal(names, []string{ckptName(2), ckptName(3), logName(7), logName(8), logName(9), "manifest"}) {
			t.Errorf("%s: %v", why, names)
		}
		w.flush(10)
		w.start(api.OK)
		w.end()
		w.shows(why, api.Sight{Next: 11, Durable: 10, Base: 10, Keys: keys})
	})
}

// P18.7, P0.3, P0.5: behind a Trim that failed at any stroke, or went through, and a crash of any Picks, it opens with what was durable.
func TestTrimCrash(t *testing.T) {
	for k := range 12 {
		for _, f := range faults() {
			build := func() *disk.Disk {
				w := laden(t)
				w.d.Plan(strokeFails(k, f.kind))
				w.x.Trim()
				return w.d
			}
			for _, p := range picksFor(build()) {
				d := build()
				d.Crash(p)
				x, o, e := engine.Open(d, usual)
				if e != api.OK || o != (api.Opened{Base: 6, Last: 9, Replayed: 3}) {
					t.Fatalf("P18.7: stroke %d, fault %d, crash %v: %+v, %v", k, f.kind, p, o, e)
				}
				world{t, d, x}.has("P18.7", at(9))
			}
		}
	}
}

// P18.7: a manifest that was told with an error: the base is its Mark as soon as Collect has gone through, whatever comes of the log's Trim; if Collect fails, it is as it was.
func TestTrimBase(t *testing.T) {
	rules := api.Rules{Segment: 1, Page: 128, Workers: 1}
	build := func() world {
		w := dir{}.opened(t, rules)
		for n := 1; n <= 6; n++ {
			w.submit(n, n)
		}
		w.start(api.OK)
		w.d.Plan(strokeFails(7, api.FaultIO))
		w.step(128, false, api.ErrIO)
		w.shows("P18.6", api.Sight{Next: 7, Durable: 6, Keys: len(at(6).values)})
		return w
	}
	beats := []beat{syncsNames()}
	for n := 1; n <= 5; n++ {
		beats = append(beats, remove(logName(n)))
	}
	beats = append(beats, syncsNames())
	strokesAre(t, "P18.7", build, trimming, beats, func(w world, k int, why string) {
		want := api.Sight{Next: 7, Durable: 6, Base: 6, Keys: len(at(6).values)}
		if k == 1 {
			want.Base = 0
		}
		w.shows(why, want)
	})
}

// P18.7: the order of the errors: closed, broken, busy, idle, those of Collect and of the log's Trim.
func TestTrimOrder(t *testing.T) {
	w := fresh(t)
	w.refuses("P18.7: no manifest", api.ErrIdle, trimming)
	w.submit(1, 3)
	w.flush(3)
	w.refuses("P18.7: no manifest", api.ErrIdle, trimming)
	w.start(api.OK)
	w.refuses("P18.7: going on, and no manifest", api.ErrBusy, trimming)
	off(t, w.d)
	w.refuses("P18.7: going on, no power", api.ErrBusy, trimming)
	w.submit(4, 4)
	if n, e := w.x.Flush(); n != 0 || e != api.ErrOff {
		t.Fatalf("P18.3: %d, %v", n, e)
	}
	w.refuses("P18.7: broken, and no manifest", api.ErrBroken, trimming)
	w.close()
	w.refuses("P18.7: closed", api.ErrClosed, trimming)
	w = laden(t)
	w.start(api.OK)
	w.refuses("P18.7: going on", api.ErrBusy, trimming)
	w.submit(11, 11)
	off(t, w.d)
	w.x.Flush()
	w.refuses("P18.7: broken", api.ErrBroken, trimming)
	w = laden(t)
	off(t, w.d)
	w.refuses("P18.7: no power", api.ErrOff, trimming)
}

// P18.7: what waits goes on waiting; once more there is one stroke, SyncNames, and nothing to remove.
func TestTrimAgain(t *testing.T) {
	w := laden(t)
	w.trim(api.OK)
	for range 3 {
		w.d.Plan(api.Plan{})
		files := dir(w.d.Files()).names()
		w.trim(api.OK)
		if w.d.Strokes() != 1 || !slices.Equal(dir(w.d.Files()).names(), files) {
			t.Errorf("P18.7: %d strokes", w.d.Strokes())
		}
	}
	w.flush(10)
	w.has("P18.7", at(10))
}

// P18.7, P0.5: behind it an opening replays just what is behind the Mark; other people's files stay.
func TestTrimmed(t *testing.T) {
	w := laden(t)
	if e := w.d.Hand("x", []byte{1}); e != api.OK {
		t.Fatal(e)
	}
	w = open(t, w.d, api.Rules{Segment: 1, Page: 128})
	w.trim(api.OK)
	if names := dir(w.d.Files()).names(); !slices.Equal(names, []string{ckptName(2), ckptName(3), logName(7), logName(8), logName(9), "manifest", "x"}) {
		t.Errorf("P18.7: %v", names)
	}
	w.close()
	w.d.Crash(api.Picks{})
	x, o, e := engine.Open(w.d, usual)
	if e != api.OK || o != (api.Opened{Base: 6, Last: 9, Replayed: 3}) {
		t.Errorf("P0.5: %+v, %v", o, e)
	}
	world{t, w.d, x}.has("P0.5", at(9))
}
