package engine_test

import (
	"slices"
	"testing"

	"treadle/api"
	"treadle/disk"
	"treadle/engine"
)

// put2 puts its second argument under the key that is its first.
func put2() api.Txn { return define("proc put2 2", "arg r0 0", "arg r1 1", "put r0 r1", "stop") }

func put(key string, n int) api.Txn { return call("put2", text(key), num(n)) }

// The chapter's examples, one behind the other.
func TestExamples(t *testing.T) {
	build := func() world {
		d, e := disk.New(100000, 20)
		if e != api.OK {
			t.Fatal(e)
		}
		if x, o, e := engine.Open(d, api.Rules{Segment: 0}); x != nil || o != (api.Opened{}) || e != api.ErrArg {
			t.Errorf("P18.1: %v, %+v, %v", x, o, e)
		}
		w := open(t, d, api.Rules{Segment: 100, Page: 2, Workers: 1})
		n, l, e := w.x.Submit([]api.Txn{put2(), put("a", 1)})
		if n != 1 || len(l) != 2 || l[0].Status != api.StatusDone || l[1].Status != api.StatusDone || e != api.OK {
			t.Errorf("P18.2: %d, %+v, %v", n, l, e)
		}
		return w
	}
	w := build()
	if v, e := w.x.Read("a"); v != num(1) || e != api.OK {
		t.Errorf("P18.4: %+v, %v", v, e)
	}
	w.shows("P18.9", api.Sight{Next: 3, Keys: 1})
	strokesAre(t, "P18.5", build, starting, []beat{
		create("log-000000000001"), lay("log-000000000001", row(1, put2(), put("a", 1))), syncs("log-000000000001"), syncsNames(), create("ckpt-000000000001"),
	}, nil)
	w.start(api.OK)
	w.refuses("P18.5, P18.7", api.ErrBusy, starting, trimming)
	w.step(1, false, api.OK)
	w.step(9, true, api.OK)
	w.refuses("P18.6", api.ErrIdle, stepping(1))
	w.shows("P18.9", api.Sight{Next: 3, Durable: 2, Base: 2, Keys: 1})
	w.refuses("P18.5", api.ErrIdle, starting)
	if n, l, e := w.x.Submit([]api.Txn{put("b", 2)}); n != 3 || len(l) != 1 || e != api.OK {
		t.Errorf("P18.2: %d, %+v, %v", n, l, e)
	}
	w.flush(3)
	w.trim(api.OK)
	w.d.Plan(strokeFails(1, api.FaultIO))
	if _, _, e := w.x.Submit([]api.Txn{put("b", 3)}); e != api.OK {
		t.Errorf("P18.2: %v", e)
	}
	if n, e := w.x.Flush(); n != 0 || e != api.ErrIO {
		t.Errorf("P18.3: %d, %v", n, e)
	}
	w.refuses("P18.2", api.ErrBroken, submitting(put("b", 4)))
	if v, e := w.x.Read("a"); v != num(1) || e != api.OK {
		t.Errorf("P18.4: %+v, %v", v, e)
	}
	w.close()
	w.refuses("P18.8", api.ErrClosed, reading("a"), closing)
}

// The examples' procedure, with a crash behind it: what was flushed is there, and nothing else.
func TestExampleAgain(t *testing.T) {
	w := fresh(t)
	if _, _, e := w.x.Submit([]api.Txn{put2(), put("a", 1), put("b", 2)}); e != api.OK {
		t.Fatal(e)
	}
	w.flush(3)
	if _, _, e := w.x.Submit([]api.Txn{put("a", 9)}); e != api.OK {
		t.Fatal(e)
	}
	w.d.Crash(api.Picks{})
	x, o, e := engine.Open(w.d, usual)
	if e != api.OK || o != (api.Opened{Last: 3, Replayed: 3}) {
		t.Fatalf("P18.13: %+v, %v", o, e)
	}
	want := []api.Entry{{Key: "a", Value: num(1)}, {Key: "b", Value: num(2)}}
	if got := entriesOf(t, x); !slices.Equal(got, want) {
		t.Errorf("P18.13: %v, not %v", got, want)
	}
}
