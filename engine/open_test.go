package engine_test

import (
	"fmt"
	"math"
	"slices"
	"testing"

	"treadle/api"
	"treadle/disk"
	"treadle/engine"
	"treadle/manifest"
	"treadle/revive"
)

// scenes is directories that open: without a manifest, with the checkpoint that it names, with the one ahead of it; and torn ones.
func scenes() map[string]dir {
	log := dir{seg(1, 1, 1), seg(3, 1), seg(4, 1, 2)}
	torn := log.with(file(logName(4), append(rows(4, 1, 2), 1, 2, 3)))
	late := dir{man(of(2, 9, 3, 5, 1)), ck(9, 3), ck(5, 1)}
	return map[string]dir{
		"nothing":                    {},
		"a log":                      log,
		"a torn log":                 torn,
		"an empty segment":           {seg(1)},
		"a checkpoint alone":         {man(of(1, 4, 3, 0, 0)), ck(4, 3)},
		"a checkpoint of nothing":    {man(of(1, 4, 0, 0, 0)), ck(4, 0)},
		"a checkpoint and a log":     late.with(log...),
		"a checkpoint and torn":      late.with(torn...),
		"a checkpoint at the end":    dir{man(of(7, 9, 6, 0, 0)), ck(9, 6)}.with(log...),
		"the one ahead":              late.with(torn...).with(file(ckptName(9), []byte{1})),
		"the one ahead alone":        late.with(log...).without(ckptName(9)),
		"the one ahead, of nothing":  dir{man(of(2, 9, 3, 5, 0)), ck(5, 0)}.with(log...),
		"the one ahead, all trimmed": dir{man(of(2, 9, 8, 5, 6)), ck(5, 6)}.with(seg(7)),
		"others":                     log.with(file("x", []byte{1}), file("manifest.new", nil), file(ckptName(3), nil)),
	}
}

// P18.1: no disk, whatever the rules.
func TestNoDisk(t *testing.T) {
	for _, rules := range []api.Rules{usual, {}, {Segment: -1, Page: 999}} {
		if x, o, e := engine.Open(nil, rules); x != nil || o != (api.Opened{}) || e != api.ErrArg {
			t.Errorf("P18.1: Open(nil, %+v): %v, %+v, %v", rules, x, o, e)
		}
	}
}

// P18.1: rules at their edges, each with each; those that may not be are refused ahead of all else: nothing is read then, nor asked of the power.
func TestRules(t *testing.T) {
	segments := map[int]bool{math.MinInt: false, -1: false, 0: false, 1: true, 2: true, 100: true, 4194303: true, 4194304: true, 4194305: false, math.MaxInt: false}
	pages := map[int]bool{math.MinInt: false, -1: false, 0: false, 1: true, 2: true, 127: true, 128: true, 129: false, math.MaxInt: false}
	for segment, may := range segments {
		for page, mayPage := range pages {
			for _, workers := range anyWorkers() {
				rules := api.Rules{Segment: segment, Page: page, Workers: workers}
				may := may && mayPage
				d := scenes()["a torn log"].disk(t)
				ahead := sightOf(d)
				x, o, e := engine.Open(d, rules)
				if may {
					if x == nil || o != (api.Opened{Last: 6, Replayed: 6, Torn: 3}) || e != api.OK {
						t.Errorf("P18.1: Open(%+v): %v, %+v, %v", rules, x, o, e)
					}
					continue
				}
				if x != nil || o != (api.Opened{}) || e != api.ErrArg {
					t.Errorf("P18.1: Open(%+v): %v, %+v, %v", rules, x, o, e)
				}
				sameSight(t, "W3: rules that may not be", sightOf(d), ahead)
				off(t, d)
				if x, _, e := engine.Open(d, rules); x != nil || e != api.ErrArg {
					t.Errorf("P18.1: Open(%+v) without power: %v, %v", rules, x, e)
				}
			}
		}
	}
}

// P18.1: each error of chapter 17's Open, with what it does: each reading and each stroke fails in turn, in each way.
func TestErrorsOfOpening(t *testing.T) {
	fails := func(why string, want api.Errno, build func() *disk.Disk) {
		t.Helper()
		d, by := build(), build()
		s, we := revive.Open(by, 1)
		x, o, e := engine.Open(d, usual)
		if e != want || e != we || (x == nil) != (s == nil) {
			t.Errorf("P18.1: %s: %v, %v, not %v", why, x, e, want)
		}
		if e != api.OK && o != (api.Opened{}) {
			t.Errorf("W3: %s: %+v", why, o)
		}
		sameSight(t, "P18.1: "+why, sightOf(d), sightOf(by))
	}
	for what, files := range scenes() {
		whole := files.disk(t)
		whole.Plan(api.Plan{})
		if _, e := revive.Open(whole, 1); e != api.OK {
			t.Fatal(what, e)
		}
		planned := func(p api.Plan) func() *disk.Disk {
			return func() *disk.Disk {
				d := files.disk(t)
				d.Plan(p)
				return d
			}
		}
		for _, f := range faults() {
			for k := 1; k <= whole.Reads(); k++ {
				fails(fmt.Sprint(what, ", reading ", k), f.e, planned(readFails(k, f.kind)))
			}
			for k := 1; k <= whole.Strokes(); k++ {
				fails(fmt.Sprint(what, ", stroke ", k), f.e, planned(strokeFails(k, f.kind)))
			}
			fails(what, api.OK, planned(strokeFails(whole.Strokes()+1, f.kind)))
		}
		fails(what+", no power", api.ErrOff, func() *disk.Disk {
			d := files.disk(t)
			off(t, d)
			return d
		})
	}
	for _, files := range []dir{
		{file("manifest", nil)},
		{man(of(1, 4, 3, 0, 0))},
		{man(of(1, 4, 3, 0, 0)), ck(4, 2)},
		{seg(2, 1)},
		{seg(1, 1), seg(3, 1)},
		{man(of(2, 9, 3, 5, 1)), ck(5, 1), seg(4, 1)},
	} {
		fails("damage: "+files.words(), api.ErrDamage, func() *disk.Disk { return files.disk(t) })
	}
}

// P18.1: what Opened says is what chapter 17 says; and the Engine has that state, its Next, and its base.
func TestOpened(t *testing.T) {
	for what, files := range scenes() {
		for _, workers := range anyWorkers() {
			s, e := revive.Open(files.disk(t), 1)
			if e != api.OK {
				t.Fatal(what, e)
			}
			rules := usual
			rules.Workers = workers
			d := files.disk(t)
			x, o, e := engine.Open(d, rules)
			if e != api.OK || o != s.Opened {
				t.Fatalf("P18.1: %s: %+v, %v, not %+v", what, o, e, s.Opened)
			}
			w := world{t, d, x}
			w.shows("P18.1: "+what, api.Sight{Next: o.Last + 1, Durable: o.Last, Base: o.Base, Keys: s.Values.Len()})
			var want []api.Entry
			for key, v := range s.Values.Range("", "") {
				want = append(want, api.Entry{Key: key, Value: v})
			}
			if got := entriesOf(t, x); !slices.Equal(got, want) {
				t.Errorf("P18.1: %s: %v, not %v", what, got, want)
			}
			// Nothing waits, and what is written on is written behind it.
			w.flush(o.Last)
			w.submit(o.Last+1, o.Last+3)
			w.flush(o.Last + 3)
			w.close()
			if _, again, e := engine.Open(d, rules); e != api.OK || again != (api.Opened{Base: o.Base, Last: o.Last + 3, Replayed: o.Last + 3 - o.Base}) {
				t.Errorf("P18.1: %s, opened again: %+v, %v", what, again, e)
			}
		}
	}
}

// P18.1: the log is over the segments that were found: the last one is written on, as far as rules.Segment lets it.
func TestSegmentsGoOn(t *testing.T) {
	files := dir{seg(1, 1, 1), seg(3, 1)}
	had, frame := len(rows(3, 1)), rows(4, 2)
	for _, x := range []struct {
		limit int
		want  []string
	}{
		{had + len(frame), []string{logName(1), logName(3)}},
		{had + len(frame) - 1, []string{logName(1), logName(3), logName(4)}},
		{1, []string{logName(1), logName(3), logName(4)}},
		{api.MaxRoom, []string{logName(1), logName(3)}},
	} {
		w := files.opened(t, api.Rules{Segment: x.limit, Page: 1, Workers: 1})
		w.submit(4, 5)
		w.flush(5)
		if names := dir(w.d.Files()).names(); !slices.Equal(names, x.want) {
			t.Errorf("P18.1: a segment of %d: %v, not %v", x.limit, names, x.want)
		}
	}
}

// manifestOf is what the manifest on a disk says.
func (w world) manifestOf() api.Manifest {
	w.t.Helper()
	m, e := manifest.Decode(dir(w.d.Files()).bytes("manifest"))
	if e != api.OK {
		w.t.Fatal(e)
	}
	return m
}

// P18.1: the checkpoint that File names fits: the base is its Mark, and the manifest counts as it is.
func TestBaseFits(t *testing.T) {
	files := dir{man(of(2, 9, 3, 5, 1)), ck(9, 3), ck(5, 1), seg(1, 1, 1), seg(3, 1), seg(4, 1, 1)}
	w := files.opened(t, usual)
	w.shows("P18.1", api.Sight{Next: 6, Durable: 5, Base: 3, Keys: len(stamped(3, 9).from(4, 5).values)})
	w.has("P18.1", stamped(3, 9).from(4, 5))
	w.trim(api.OK)
	if names := dir(w.d.Files()).names(); !slices.Equal(names, []string{ckptName(5), ckptName(9), logName(4), "manifest"}) {
		t.Errorf("P18.7: %v", names)
	}
	w.start(api.OK)
	w.end()
	w.shows("P18.6", api.Sight{Next: 6, Durable: 5, Base: 5, Keys: len(stamped(3, 9).from(4, 5).values)})
	if m := w.manifestOf(); m != of(3, 10, 5, 9, 3) {
		t.Errorf("P18.1: %+v", m)
	}
	// At its Mark there is nothing for a checkpoint.
	w = files.without(logName(4)).opened(t, usual)
	w.refuses("P18.5", api.ErrIdle, starting)
}

// P18.1: the one ahead was taken: the manifest that counts has Prev and PrevMark as File and Mark, and no one ahead of it.
func TestBaseAhead(t *testing.T) {
	log := dir{seg(1, 1), seg(2, 1), seg(3, 1), seg(4, 1, 1)}
	for _, spoilt := range []api.FileBytes{file(ckptName(9), []byte{1}), ck(9, 2), ck(9, 4)} {
		w := dir{man(of(7, 9, 3, 5, 1)), ck(5, 1), spoilt}.with(log...).opened(t, usual)
		keys := len(stamped(1, 5).from(2, 5).values)
		w.shows("P18.1: the one ahead", api.Sight{Next: 6, Durable: 5, Base: 1, Keys: keys})
		w.has("P18.1: the one ahead", stamped(1, 5).from(2, 5))
		w.start(api.OK)
		w.shows("P18.5", api.Sight{Next: 6, Durable: 5, Base: 1, Going: true, Mark: 5, Keys: keys})
		w.end()
		w.shows("P18.6", api.Sight{Next: 6, Durable: 5, Base: 5, Keys: keys})
		// Its number is behind the one that does not fit, since that one's name is there.
		if m := w.manifestOf(); m != of(8, 10, 5, 5, 1) {
			t.Errorf("P18.1: %+v", m)
		}
		w.trim(api.OK)
		if names := dir(w.d.Files()).names(); !slices.Equal(names, []string{ckptName(5), ckptName(10), logName(4), "manifest"}) {
			t.Errorf("P18.7: %v", names)
		}
	}
}

// P18.1: the same, and trimmed at once: the one that does not fit is removed, and what follows the one ahead stays.
func TestTrimAhead(t *testing.T) {
	log := dir{seg(1, 1), seg(2, 1), seg(3, 1), seg(4, 1, 1)}
	build := func() world {
		return dir{man(of(7, 9, 3, 5, 1)), ck(5, 1), ck(9, 2), ck(4, 0)}.with(log...).opened(t, usual)
	}
	strokesAre(t, "P18.7: the one ahead", build, trimming, []beat{
		remove(ckptName(4)), remove(ckptName(9)), syncsNames(), remove(logName(1)), syncsNames(),
	}, func(w world, k int, why string) {
		w.shows(why, api.Sight{Next: 6, Durable: 5, Base: 1, Keys: len(stamped(1, 5).from(2, 5).values)})
	})
	w := build()
	w.trim(api.OK)
	w.close()
	x, o, e := engine.Open(w.d, usual)
	if e != api.OK || o != (api.Opened{Base: 1, Last: 5, Replayed: 4}) {
		t.Fatalf("P18.7: opened behind it: %+v, %v", o, e)
	}
	world{t, w.d, x}.has("P18.7: opened behind it", stamped(1, 5).from(2, 5))
}

// P18.1: the file that the manifest names is not there: a new checkpoint may have its number, and the one ahead is the one ahead.
func TestAheadNumber(t *testing.T) {
	w := dir{man(of(7, 6, 3, 5, 1)), ck(5, 1), seg(1, 1), seg(2, 3)}.opened(t, usual)
	w.start(api.OK)
	w.end()
	if m := w.manifestOf(); m != of(8, 6, 4, 5, 1) {
		t.Errorf("P18.1: %+v", m)
	}
}

// P18.1, P18.5: there is nothing for a checkpoint at the Mark of the manifest that counts, which is PrevMark, if the one ahead was taken; at Mark there is.
func TestIdleAhead(t *testing.T) {
	w := dir{man(of(7, 9, 3, 5, 1)), ck(5, 1), seg(1, 1)}.opened(t, usual)
	w.refuses("P18.5", api.ErrIdle, starting)
	w.submit(2, 3)
	w.start(api.OK)
	w.shows("P18.5", api.Sight{Next: 4, Durable: 3, Base: 1, Going: true, Mark: 3, Keys: len(stamped(1, 5).from(2, 3).values)})
	w.end()
	if m := w.manifestOf(); m != of(8, 6, 3, 5, 1) {
		t.Errorf("P18.1: %+v", m)
	}
}

// P18.1: without a manifest the base is 0, and none counts.
func TestBaseNone(t *testing.T) {
	w := dir{seg(1, 2, 1), ck(9, 2)}.opened(t, usual)
	w.shows("P18.1", api.Sight{Next: 4, Durable: 3, Keys: len(at(3).values)})
	w.refuses("P18.7", api.ErrIdle, trimming)
	w.start(api.OK)
	w.end()
	if m := w.manifestOf(); m != of(1, 10, 3, 0, 0) {
		t.Errorf("P18.1: %+v", m)
	}
	w.shows("P18.6", api.Sight{Next: 4, Durable: 3, Base: 3, Keys: len(at(3).values)})
}

// P18.1: a checkpoint of Mark 0 is one that counts, though its Mark is that of none.
func TestBaseOfNothing(t *testing.T) {
	w := dir{man(of(1, 4, 0, 0, 0)), ck(4, 0)}.opened(t, usual)
	w.shows("P18.1", api.Sight{Next: 1, Keys: 1})
	w.refuses("P18.5", api.ErrIdle, starting)
	w.trim(api.OK)
	w.submit(1, 2)
	w.start(api.OK)
	w.end()
	if m := w.manifestOf(); m != of(2, 5, 2, 4, 0) {
		t.Errorf("P18.1: %+v", m)
	}
}

// P18.1: two that are opened on one disk, one behind the other: the second one finds what the first one flushed, and no more.
func TestOpenedAgain(t *testing.T) {
	w := fresh(t)
	w.submit(1, 3)
	w.flush(3)
	w.submit(4, 6)
	w.close()
	again := open(t, w.d, usual)
	again.shows("P18.8", api.Sight{Next: 4, Durable: 3, Keys: len(at(3).values)})
	again.has("P18.8", at(3))
}
