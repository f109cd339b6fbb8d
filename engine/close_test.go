package engine_test

import (
	"slices"
	"testing"

	"treadle/api"
	"treadle/engine"
)

// P18.8: Close with a checkpoint going on and without one, broken or not, with something that waits or nothing: no stroke, and every call is refused behind it.
func TestClose(t *testing.T) {
	broken := func() world {
		w := waiting(t)
		w.d.Plan(strokeFails(1, api.FaultIO))
		w.x.Flush()
		return w
	}
	dark := func() world {
		w := goingOn(t)
		off(t, w.d)
		return w
	}
	for what, build := range map[string]func() world{
		"nothing":  func() world { return fresh(t) },
		"waiting":  func() world { return waiting(t) },
		"going on": func() world { return goingOn(t) },
		"a step":   func() world { return brinked(t) },
		"broken":   broken,
		"no power": dark,
		"laden":    func() world { return laden(t) },
	} {
		w := build()
		ahead := sightOf(w.d)
		w.close()
		sameSight(t, "P18.8: "+what, sightOf(w.d), ahead)
		w.shows("P18.9: "+what, api.Sight{Closed: true})
		w.refuses("P18.8: "+what, api.ErrClosed, eachCall()...)
		w.shows("P18.9: "+what, api.Sight{Closed: true})
	}
}

// P18.8: a checkpoint that was going on is dropped: its file stays, no manifest; what was not flushed is not in the log.
func TestCloseDrops(t *testing.T) {
	w := goingOn(t)
	w.close()
	if names := dir(w.d.Files()).names(); !slices.Equal(names, []string{ckptName(1), logName(1)}) {
		t.Errorf("P18.8: %v", names)
	}
	again := open(t, w.d, usual)
	again.shows("P18.8", api.Sight{Next: 4, Durable: 3, Keys: len(at(3).values)})
	again.has("P18.8", at(3))
	again.start(api.OK)
	again.end()
	if m := again.manifestOf(); m != of(1, 2, 3, 0, 0) {
		t.Errorf("P18.8: %+v", m)
	}
}

// P18.8: one is closed, another one is open on the disk: the closed one does nothing to it.
func TestClosedBeside(t *testing.T) {
	w := waiting(t)
	w.close()
	other := open(t, w.d, usual)
	other.submit(4, 9)
	sight := other.x.Sight()
	w.refuses("P18.8", api.ErrClosed, eachCall()...)
	other.shows("P18.8", sight)
	other.flush(9)
	other.has("P18.8", at(9))
}

// Chapter 18: a zero Engine is closed.
func TestZero(t *testing.T) {
	for _, call := range eachCall() {
		var x engine.Engine
		if e := call(&x); e != api.ErrClosed {
			t.Errorf("P18.8: a zero Engine: %v", e)
		}
		if s := x.Sight(); s != (api.Sight{Closed: true}) {
			t.Errorf("P18.9: a zero Engine: %+v", s)
		}
	}
	if x := new(engine.Engine); x.Sight() != (api.Sight{Closed: true}) {
		t.Errorf("P18.9: a zero Engine: %+v", x.Sight())
	}
}

// W8: of no Engine: ErrClosed, and a zero Sight.
func TestNone(t *testing.T) {
	var x *engine.Engine
	for i, call := range eachCall() {
		if e := call(x); e != api.ErrClosed {
			t.Errorf("W8: call %d: %v", i, e)
		}
	}
	if s := x.Sight(); s != (api.Sight{}) {
		t.Errorf("W8: %+v", s)
	}
}

// P18.9: Sight at each moment of a life, Keys and Mark too; it is no stroke and no reading.
func TestSight(t *testing.T) {
	w := fresh(t)
	keys := func(n int) int { return len(at(n).values) }
	put := func(key string, v api.Value) {
		t.Helper()
		if _, l, e := w.x.Submit([]api.Txn{call("put", text(key), v)}); e != api.OK || l[0].Status != api.StatusDone {
			t.Fatal(l, e)
		}
	}
	w.shows("opened", api.Sight{Next: 1})
	w.submit(1, 3)
	w.shows("submitted", api.Sight{Next: 4, Keys: keys(3)})
	w.flush(3)
	w.shows("flushed", api.Sight{Next: 4, Durable: 3, Keys: keys(3)})
	w.start(api.OK)
	w.shows("started", api.Sight{Next: 4, Durable: 3, Going: true, Mark: 3, Keys: keys(3)})
	w.submit(4, 6)
	w.shows("submitted while it goes on", api.Sight{Next: 7, Durable: 3, Going: true, Mark: 3, Keys: keys(6)})
	w.step(1, false, api.OK)
	w.shows("a step", api.Sight{Next: 7, Durable: 3, Going: true, Mark: 3, Keys: keys(6)})
	w.flush(6)
	w.shows("flushed while it goes on", api.Sight{Next: 7, Durable: 6, Going: true, Mark: 3, Keys: keys(6)})
	w.end()
	w.shows("ended", api.Sight{Next: 7, Durable: 6, Base: 3, Keys: keys(6)})
	w.trim(api.OK)
	w.shows("trimmed", api.Sight{Next: 7, Durable: 6, Base: 3, Keys: keys(6)})
	if _, _, e := w.x.Submit([]api.Txn{define("proc put 2", "arg r0 0", "arg r1 1", "put r0 r1")}); e != api.OK {
		t.Fatal(e)
	}
	w.start(api.OK)
	for _, x := range []struct {
		key  string
		v    api.Value
		keys int
	}{{"a", num(1), 1}, {"a", num(2), 1}, {"b", text(""), 2}, {"a", api.Value{}, 1}, {"a", api.Value{}, 1}, {"c", api.Value{}, 1}, {"a", num(3), 2}, {"b", api.Value{}, 1}} {
		put(x.key, x.v)
		if got := w.x.Sight().Keys; got != keys(6)+x.keys {
			t.Errorf("P18.9: %d keys, not %d", got, keys(6)+x.keys)
		}
	}
	w.shows("keys put and taken away while it goes on", api.Sight{Next: 16, Durable: 7, Base: 3, Going: true, Mark: 7, Keys: keys(6) + 1})
	ahead := sightOf(w.d)
	for range 3 {
		w.x.Sight()
	}
	sameSight(t, "P18.9", sightOf(w.d), ahead)
	off(t, w.d)
	w.shows("no power", api.Sight{Next: 16, Durable: 7, Base: 3, Going: true, Mark: 7, Keys: keys(6) + 1})
	w.x.Flush()
	w.shows("broken", api.Sight{Broken: true, Next: 16, Durable: 7, Base: 3, Keys: keys(6) + 1})
	w.close()
	w.shows("closed", api.Sight{Closed: true})
}
