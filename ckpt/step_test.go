package ckpt_test

import (
	"bytes"
	"fmt"
	"math"
	"slices"
	"testing"

	"treadle/api"
	"treadle/ckpt"
	"treadle/page"
)

// P16.3: each state, each page and each n, against the chapter's words, call by call; how many Steps there are, and what the file says.
func TestSteps(t *testing.T) {
	for _, s := range someStates() {
		for _, limit := range []int{1, 2, 3, 5, 128} {
			for _, n := range []int{1, 2, 3, 4, 127, 128, 129, math.MaxInt} {
				p := paired(t, s)
				p.why = fmt.Sprintf("%d procedures and %d entries, page %d", len(s.procs), len(s.entries), limit)
				p.begin(none, false, 7, limit)
				each := min(n, limit)
				for left := s.size(); left > each; left -= each {
					if m, is, e := p.step(n); m != none || is || e != api.OK {
						t.Errorf("P16.3: %s, Step(%d): %v, %v, %v", p.why, n, m, is, e)
					}
				}
				if m, is, e := p.step(n); m != of(1, 1, 7, 0, 0) || !is || e != api.OK {
					t.Errorf("P16.3: %s, Step(%d), the last one: %v, %v, %v", p.why, n, m, is, e)
				}
				p.w.holds(t, slowName(1), fileOf(t, 1, 7, each, s))
				p.w.holds(t, "manifest", slowManifest(of(1, 1, 7, 0, 0)))
				p.w.free(t)
				idle(t, p.j)
			}
		}
	}
}

// P16.3: a greater state: pages of 128, and fewer, and one that ends between the two kinds.
func TestManySteps(t *testing.T) {
	for _, x := range [][2]int{{128, 128}, {127, 1}, {1, 127}, {129, 0}, {0, 257}, {200, 200}, {64, 65}} {
		for _, n := range []int{128, 1000, 100, 64} {
			s := many(x[0], x[1])
			w := newWorld(t, s)
			j := w.begin(t, none, false, 7, 128)
			for left := s.size(); left > min(n, 128); left -= min(n, 128) {
				steps(t, j, n, none, false, api.OK)
			}
			steps(t, j, n, of(1, 1, 7, 0, 0), true, api.OK)
			w.holds(t, slowName(1), fileOf(t, 1, 7, min(n, 128), s))
		}
	}
}

// P16.3: other numbers in turn.
func TestMixedSteps(t *testing.T) {
	for _, s := range someStates() {
		p := paired(t, s)
		p.begin(none, false, 7, 3)
		toEnd(t, func(k int) (api.Manifest, bool, api.Errno) { return p.step([]int{1, 3, 2, 9}[k%4]) })
	}
}

// P16.3: the strokes, one by one: of a Step with more behind it, and of the last one.
func TestStrokes(t *testing.T) {
	was := file("manifest", slowManifest(of(4, 6, 5, 0, 0)))
	for _, x := range []struct {
		there []api.FileBytes
		want  []string
	}{
		{nil, []string{"append", "sync", "create manifest.new", "append", "sync", "rename", "names"}},
		{[]api.FileBytes{was}, []string{"append", "sync", "create manifest.new", "append", "sync", "rename", "names"}},
		{[]api.FileBytes{was, file("manifest.new", []byte{1})}, []string{"append", "sync", "remove manifest.new", "create manifest.new", "append", "sync", "rename", "names"}},
	} {
		build := func() (world, *ckpt.Job) {
			w := newWorld(t, example(), x.there...)
			return w, w.begin(t, of(4, 6, 5, 0, 0), len(x.there) > 0, 7, 3)
		}
		strokesAre(t, build, "append")
		strokesAre(t, func() (world, *ckpt.Job) {
			w, j := build()
			steps(t, j, 3, none, false, api.OK)
			return w, j
		}, x.want...)
	}
}

// strokesAre holds the strokes of a Step against words: the power goes off at each of them in turn, and what is there is looked at.
func strokesAre(t *testing.T, build func() (world, *ckpt.Job), want ...string) {
	t.Helper()
	var got []string
	var last sight
	for k := 1; ; k++ {
		w, j := build()
		w.d.Plan(failsAt(k, api.FaultOff))
		j.Step(3)
		now := sightOf(w)
		if k > 1 {
			got = append(got, between(last, now))
		}
		last = now
		if !w.d.Off() {
			break
		}
	}
	if !slices.Equal(got, want) {
		t.Errorf("P16.3: the strokes are %q, not %q", got, want)
	}
}

// between is the stroke that lies between two sights.
func between(a, b sight) string {
	sum := func(list []int) (n int) {
		for _, v := range list {
			n += v
		}
		return n
	}
	ahead, _ := bytesOf(a.files, "manifest.new")
	now, _ := bytesOf(b.files, "manifest")
	switch gone, come := minus(a.files, b.files), minus(b.files, a.files); {
	case slices.Equal(gone, []string{"manifest.new"}) && bytes.Equal(ahead, now):
		return "rename"
	case len(gone) > 0:
		return "remove " + gone[0]
	case len(come) > 0:
		return "create " + come[0]
	case b.names < a.names:
		return "names"
	case sum(b.changes) > sum(a.changes):
		return "append"
	case sum(b.changes) < sum(a.changes):
		return "sync"
	}
	return "nothing"
}

// minus is the names of the files that others do not have.
func minus(a, b []api.FileBytes) []string {
	var out []string
	for _, f := range a {
		if _, is := bytesOf(b, f.Name); !is {
			out = append(out, f.Name)
		}
	}
	return out
}

// P16.3: n below 1: nothing has changed, and the Job goes on; it comes behind ErrIdle.
func TestStepRefused(t *testing.T) {
	for _, s := range someStates() {
		p := paired(t, s)
		p.begin(none, false, 7, 2)
		toEnd(t, func(int) (api.Manifest, bool, api.Errno) {
			for _, n := range []int{0, -1, -128, math.MinInt} {
				if m, is, e := p.step(n); m != none || is || e != api.ErrArg {
					t.Errorf("P16.3: Step(%d): %v, %v, %v", n, m, is, e)
				}
			}
			return p.step(1)
		})
		idle(t, p.j)
		p.alike("ErrIdle")
	}
}

// P16.3, W8: no Job, a zero one, one at its end, one that has failed, one that was dropped.
func TestStepIdle(t *testing.T) {
	var no *ckpt.Job
	for _, n := range []int{1, 128, 0, -1, math.MinInt, math.MaxInt} {
		steps(t, no, n, none, false, api.ErrArg)
	}
	no.Drop()
	var zero ckpt.Job
	idle(t, &zero)
	for _, end := range []func(w world, j *ckpt.Job){
		func(w world, j *ckpt.Job) { j.Step(128) },
		func(w world, j *ckpt.Job) { w.d.Plan(failsAt(1, api.FaultIO)); j.Step(128) },
		func(w world, j *ckpt.Job) { w.d.Plan(failsAt(2, api.FaultFull)); j.Step(128) },
		func(w world, j *ckpt.Job) { w.d.Plan(failsAt(4, api.FaultFull)); j.Step(128) },
		func(w world, j *ckpt.Job) { w.d.Plan(failsAt(7, api.FaultIO)); j.Step(128) },
		func(w world, j *ckpt.Job) { off(t, w.d); j.Step(128) },
		func(w world, j *ckpt.Job) { j.Drop() },
		func(w world, j *ckpt.Job) { j.Step(1); j.Drop() },
	} {
		w := newWorld(t, example())
		j := w.begin(t, none, false, 7, 128)
		end(w, j)
		w.free(t)
		was := sightOf(w)
		idle(t, j)
		sameSight(t, "P16.3: ErrIdle", sightOf(w), was)
		// Nor does it touch what another Job holds.
		w.d.Crash(api.Picks{Names: -1})
		other := w.begin(t, none, false, 8, 128)
		was = sightOf(w)
		idle(t, j)
		sameSight(t, "P16.3: ErrIdle, while another goes on", sightOf(w), was)
		if m, is, e := other.Step(128); m.Mark != 8 || !is || e != api.OK {
			t.Errorf("P16.3: the other one: %v, %v, %v", m, is, e)
		}
	}
}

// P16.3: the manifest's numbers, from one checkpoint to the next.
func TestManifests(t *testing.T) {
	w := newWorld(t, example())
	was, has := none, false
	for i, want := range []api.Manifest{of(1, 1, 0, 0, 0), of(2, 2, 5, 1, 0), of(3, 3, 6, 2, 5), of(4, 10, 300, 3, 6), of(5, 11, most, 10, 300)} {
		if i == 3 {
			w.d.Hand(slowName(9), nil)
		}
		j := w.begin(t, was, has, want.Mark, 128)
		steps(t, j, 128, want, true, api.OK)
		w.holds(t, "manifest", slowManifest(want))
		w.holds(t, slowName(want.File), fileOf(t, want.File, want.Mark, 128, example()))
		was, has = want, true
	}
	// What is not has counts for nothing, though it is there.
	steps(t, w.begin(t, was, false, 9, 128), 128, of(1, 12, 9, 0, 0), true, api.OK)
	// At the limits of both numbers.
	steps(t, w.begin(t, of(most-1, most-1, 8, 0, 0), true, 9, 128), 128, of(most, most, 9, most-1, 8), true, api.OK)
	w.beginFails(t, of(most, most, 9, most-1, 8), true, 9, 128, api.ErrNumber)
	w.beginFails(t, none, false, 9, 128, api.ErrNumber)
}

// P16.3: a manifest that may not be is refused by Install: its error, the stores are free, the file stays, whole.
func TestInstallRefuses(t *testing.T) {
	for _, x := range []struct {
		was  api.Manifest
		mark int
		file int
	}{
		{of(1, 1, 7, 0, 0), 7, 2},                // marks rise
		{of(1, 1, 8, 0, 0), 7, 2},                //
		{of(1, 1, 0, 0, 0), 0, 2},                //
		{of(-1, 1, 6, 0, 0), 7, 2},               // its number would be 0
		{of(math.MinInt, 1, 6, 0, 0), 7, 2},      //
		{of(1, 0, 6, 0, 0), 7, 1},                // a mark of no checkpoint
		{of(1, 1, -1, 0, 0), 7, 2},               //
		{of(1, 1, math.MinInt, 0, 0), 7, 2},      //
		{of(1, 1, math.MaxInt, 0, 0), 7, 2},      //
		{of(1, 1, most, 0, 0), most, 2},          //
		{of(1, 1, most+1, 0, 0), most, 2},        //
		{of(-1, 300, math.MaxInt, 9, 9), 7, 301}, //
	} {
		p := paired(t, example())
		p.begin(x.was, true, x.mark, 3)
		p.step(3)
		strokes := p.w.d.Strokes()
		if m, is, e := p.step(3); m != none || is || e != api.ErrArg || p.w.d.Strokes() != strokes+2 {
			t.Errorf("P16.3: behind %v: %v, %v, %v, %d strokes", x.was, m, is, e, p.w.d.Strokes()-strokes)
		}
		p.w.free(t)
		p.w.names(t, slowName(x.file))
		p.w.holds(t, slowName(x.file), fileOf(t, x.file, x.mark, 3, example()))
		idle(t, p.j)
	}
}

// P16.3: each stroke of each Step fails in turn, in each way: what is answered, what is marked, which files there are.
func TestStepFails(t *testing.T) {
	was := of(4, 6, 5, 0, 0)
	old := []api.FileBytes{file("manifest", slowManifest(was)), file(slowName(6), fileOf(t, 6, 5, 1, example())), file("x", []byte{1, 2, 3})}
	for _, there := range [][]api.FileBytes{nil, old, append(slices.Clone(old), file("manifest.new", []byte{9}))} {
		for _, s := range []state{{}, example(), many(2, 2), many(3, 0), many(0, 3)} {
			for _, n := range []int{1, 2, 128} {
				last := max(1, (s.size()+n-1)/n) // the Step that comes to the end
				for at := 1; at <= last; at++ {
					strokes := 1
					if at == last {
						strokes = 7
						if len(there) == 4 {
							strokes = 8
						}
					}
					for k := 1; k <= strokes; k++ {
						for _, f := range faults() {
							p := paired(t, s, there...)
							p.why = fmt.Sprintf("%d procedures, %d entries, Step(%d) number %d, stroke %d, %v", len(s.procs), len(s.entries), n, at, k, f.e)
							p.begin(was, len(there) > 0, 7, 128)
							for range at - 1 {
								p.step(n)
							}
							failsOnce(p, n, k, strokes, f)
						}
					}
				}
			}
		}
	}
}

// failsOnce lets the stroke number k of so many of the next Step fail, and looks at all that comes of it.
func failsOnce(p *pair, n, k, strokes int, f fault) {
	t := p.t
	t.Helper()
	next := p.slow.next
	ahead := p.w.d.Files()
	oldManifest, had := bytesOf(ahead, "manifest")
	p.plan(failsAt(k, f.kind))
	m, is, e := p.step(n)
	removed, counted := strokes == 1 || k <= 2, k
	if removed && f.kind != api.FaultOff {
		counted++ // Remove
	}
	if e != f.e || is != (strokes > 1 && k == strokes) || p.w.d.Strokes() != counted {
		t.Errorf("P16.3: %s: %v, %v, %v; %d strokes", p.why, m, is, e, p.w.d.Strokes())
	}
	if is && m != next || !is && m != none {
		t.Errorf("P16.3: %s: the manifest is %v", p.why, m)
	}
	p.w.free(t)
	idle(t, p.j)
	if _, there := bytesOf(p.w.d.Files(), slowName(next.File)); there != (!removed || f.kind == api.FaultOff) {
		t.Errorf("P16.3: %s: the checkpoint's file is there: %v", p.why, there)
	}
	b, there := bytesOf(p.w.d.Files(), "manifest")
	want := oldManifest
	if is {
		want, had = slowManifest(next), true
	}
	if there != had || string(b) != string(want) {
		t.Errorf("P16.3: %s: the manifest is there: %v, %x", p.why, there, b)
	}
}

// P16.3: the Remove behind a stroke that failed fails too, in each way: the first error is answered, and that is all.
func TestRemoveFails(t *testing.T) {
	for _, first := range faults()[1:] {
		for _, second := range faults() {
			for _, k := range []int{1, 2} {
				p := paired(t, example())
				p.begin(none, false, 7, 128)
				p.plan(api.Plan{Strokes: []api.Fault{{At: k, Kind: first.kind}, {At: k + 1, Kind: second.kind}}})
				if m, is, e := p.step(128); m != none || is || e != first.e || p.w.d.Strokes() != k+1 {
					t.Errorf("P16.3: %v, %v, %v, not %v; %d strokes", m, is, e, first.e, p.w.d.Strokes())
				}
				p.w.free(t)
				p.w.names(t, slowName(1))
				idle(t, p.j)
			}
		}
	}
}

// P16.3: too little room, at each byte: the Append of the checkpoint fails, or that of the manifest; what is left fits.
func TestNoRoom(t *testing.T) {
	whole := len(fileOf(t, 1, 7, 2, example()))
	small := len(slowManifest(of(1, 1, 7, 0, 0)))
	for room := range whole + small + 2 {
		p := &pair{t: t, why: fmt.Sprintf("room %d", room), w: worldOn(newDisk(t, room, 5), example()), by: worldOn(newDisk(t, room, 5), example())}
		p.begin(none, false, 7, 2)
		var e api.Errno
		is := false
		for !is && e == api.OK {
			_, is, e = p.step(2)
		}
		p.w.free(t)
		idle(t, p.j)
		switch {
		case room < whole:
			p.w.names(t)
		case room < whole+small:
			p.w.names(t, slowName(1), "manifest.new")
		default:
			p.w.names(t, slowName(1), "manifest")
		}
		if is != (room >= whole+small) || is != (e == api.OK) || !is && e != api.ErrFull {
			t.Errorf("P16.3: room %d of %d: %v, %v", room, whole+small, is, e)
		}
	}
}

// P16.3: no file to spare for the manifest.
func TestNoFiles(t *testing.T) {
	p := &pair{t: t, why: "one file", w: worldOn(newDisk(t, 1000, 1), example()), by: worldOn(newDisk(t, 1000, 1), example())}
	p.begin(none, false, 7, 128)
	if m, is, e := p.step(128); m != none || is || e != api.ErrFiles {
		t.Errorf("P16.3: %v, %v, %v", m, is, e)
	}
	p.w.names(t, slowName(1))
	p.w.free(t)
	idle(t, p.j)
}

// P16.3: somebody has removed the checkpoint's file, or put another in its place: the disk's answer counts.
func TestFileGone(t *testing.T) {
	w := newWorld(t, example())
	j := w.begin(t, none, false, 7, 1)
	steps(t, j, 1, none, false, api.OK)
	w.d.Remove(slowName(1))
	w.d.Plan(api.Plan{})
	steps(t, j, 1, none, false, api.ErrNone)
	if w.d.Strokes() != 0 {
		t.Errorf("P16.3: %d strokes", w.d.Strokes())
	}
	w.free(t)
	idle(t, j)
}

// W1, P16.3: stores that hold what no file can say: chapter 14's error, no stroke of it; the Job has failed, and its file is removed.
func TestUnsayable(t *testing.T) {
	for _, x := range []struct {
		put  func(w world)
		want api.Errno
	}{
		{func(w world) { w.values.Put("b", api.Value{}) }, api.ErrKind},
		{func(w world) { w.values.Put("b", api.Value{Kind: 3}) }, api.ErrKind},
		{func(w world) { w.values.Put("b", text(long(257))) }, api.ErrLong},
		{func(w world) { w.values.Put(long(65), num(1)) }, api.ErrName},
		{func(w world) { w.procs.Put("p", api.Proc{Name: "1p"}) }, api.ErrName},
		{func(w world) { w.procs.Put("p", api.Proc{Name: "p", Args: 17}) }, api.ErrArg},
		{func(w world) { w.procs.Put("q", api.Proc{Name: "a"}) }, api.ErrOrder},
	} {
		for _, n := range []int{1, 2, 128} {
			w := newWorld(t, example())
			x.put(w)
			j := w.begin(t, none, false, 7, 128)
			var e api.Errno
			taken := 0
			for ; e == api.OK && taken < 9; taken++ {
				w.d.Plan(api.Plan{})
				var is bool
				if _, is, e = j.Step(n); is {
					t.Errorf("P16.3: it has come to its end")
				}
			}
			if e != x.want || w.d.Strokes() != 1 {
				t.Errorf("P16.3: %v, not %v; %d strokes", e, x.want, w.d.Strokes())
			}
			w.free(t)
			w.names(t)
			idle(t, j)
		}
	}
	// The empty key is never gone through (chapter 9).
	w := newWorld(t, example())
	w.values.Put("", num(1))
	steps(t, w.begin(t, none, false, 7, 128), 128, of(1, 1, 7, 0, 0), true, api.OK)
	w.holds(t, slowName(1), fileOf(t, 1, 7, 128, example()))
}

// P16.3: what the file says is what chapter 14 reads.
func TestFileIsRead(t *testing.T) {
	for _, s := range someStates() {
		w := newWorld(t, s)
		j := w.begin(t, of(3, 44, 6, 0, 0), true, 7, 2)
		toEnd(t, func(int) (api.Manifest, bool, api.Errno) { return j.Step(2) })
		b, _ := bytesOf(w.d.Safe(), slowName(45))
		m, e := page.Read(b)
		if e != api.OK || m.Number != 45 || m.Mark != 7 {
			t.Errorf("P16.6: %v, %v", m, e)
		}
		sameState(t, "P16.6", state{m.Procs, m.Entries}, s)
	}
}

// sameState holds a state against another, by the bytes of both.
func sameState(t testing.TB, why string, got, want state) {
	t.Helper()
	if !bytes.Equal(fileOf(t, 1, 0, 128, got), fileOf(t, 1, 0, 128, want)) {
		t.Errorf("%s: the state is %.500v, not %.500v", why, got, want)
	}
}

// W1: faults of readings, and strokes that are not met, are nothing to a Step; it reads nothing.
func TestStepReadsNothing(t *testing.T) {
	w := newWorld(t, example(), file("manifest", slowManifest(of(1, 1, 1, 0, 0))), file(slowName(1), []byte{1}))
	j := w.begin(t, of(1, 1, 1, 0, 0), true, 7, 2)
	w.d.Plan(api.Plan{Reads: []api.Fault{{At: 1, Kind: api.FaultOff}}, Strokes: []api.Fault{{At: 99, Kind: api.FaultIO}, {At: 1, Kind: 4}, {At: 0, Kind: 1}}})
	steps(t, j, 2, none, false, api.OK)
	steps(t, j, 2, of(2, 2, 7, 1, 1), true, api.OK)
	if w.d.Reads() != 0 || w.d.Strokes() != 8 {
		t.Errorf("P16.3: %d readings, %d strokes", w.d.Reads(), w.d.Strokes())
	}
	if _, is := bytesOf(w.d.Files(), "manifest.new"); is {
		t.Errorf("P16.3: manifest.new is left")
	}
}
