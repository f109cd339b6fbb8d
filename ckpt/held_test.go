package ckpt_test

import (
	"fmt"
	"math/rand"
	"testing"

	"treadle/api"
	"treadle/page"
)

// write is something that happens to the stores.
type write func(w world)

// writes is one of each kind: new keys, changed ones, deleted ones, and several upon one key, for both stores.
func writes() []write {
	return []write{
		func(w world) { w.values.Put("b", num(100)) },
		func(w world) { w.values.Delete("b") },
		func(w world) { w.values.Put("bb", num(101)) },
		func(w world) { w.values.Put("\x00", num(102)) },
		func(w world) { w.values.Put("zz", num(103)) },
		func(w world) { w.values.Put("bb", num(104)); w.values.Delete("bb") },
		func(w world) { w.values.Delete("c"); w.values.Put("c", num(105)) },
		func(w world) { w.values.Delete("a"); w.values.Delete("b"); w.values.Delete("c") },
		func(w world) { w.values.Put("a", text("x")); w.values.Put("a", text("y")) },
		func(w world) { w.procs.Put("p", api.Proc{Name: "p", Args: 3}) },
		func(w world) { w.procs.Delete("p") },
		func(w world) { w.procs.Put("a", api.Proc{Name: "a"}); w.procs.Put("z", api.Proc{Name: "z"}) },
		func(w world) { w.procs.Delete("p"); w.procs.Put("p", api.Proc{Name: "p", Args: 4}) },
		func(w world) { w.procs.Put("pp", api.Proc{Name: "pp"}); w.procs.Delete("pp") },
	}
}

// saysThen asks what the checkpoint's file says.
func saysThen(t testing.TB, w world, number, mark int, want state) {
	t.Helper()
	b, is := bytesOf(w.d.Safe(), slowName(number))
	m, e := page.Read(b)
	if !is || e != api.OK || m.Number != number || m.Mark != mark {
		t.Fatalf("P16.6: %v, %v, number %d, mark %d", is, e, m.Number, m.Mark)
	}
	sameState(t, "P16.6", state{m.Procs, m.Entries}, want)
}

// P16.6, P0.7: each write ahead of each Step: the file says what there was; the stores have what was written.
func TestHeld(t *testing.T) {
	for _, do := range writes() {
		for at := range 5 {
			w, plain := newWorld(t, example()), newWorld(t, example())
			j := w.begin(t, none, false, 7, 1)
			toEnd(t, func(k int) (api.Manifest, bool, api.Errno) {
				if k == at {
					do(w)
					do(plain)
				}
				return j.Step(1)
			})
			if at == 4 {
				do(w)
				do(plain)
			}
			saysThen(t, w, 1, 7, example())
			sameState(t, "P16.6: the stores", w.now(), plain.now())
			// What was written meanwhile is what the next one says.
			steps(t, w.begin(t, of(1, 1, 7, 0, 0), true, 8, 128), 128, of(2, 2, 8, 1, 7), true, api.OK)
			saysThen(t, w, 2, 8, plain.now())
			saysThen(t, w, 1, 7, example())
		}
	}
}

// P16.6: all writes, one ahead of each Step, a state that is written over and over.
func TestHeldAll(t *testing.T) {
	for _, s := range someStates() {
		w := newWorld(t, s)
		j := w.begin(t, none, false, 7, 1)
		toEnd(t, func(k int) (api.Manifest, bool, api.Errno) {
			for _, do := range writes() {
				do(w)
			}
			for _, p := range s.procs[:min(k, len(s.procs))] {
				w.procs.Delete(p.Name)
			}
			for _, x := range s.entries {
				w.values.Put(x.Key, num(int64(k)))
				w.values.Put(x.Key+"0", num(int64(k)))
			}
			return j.Step(1)
		})
		saysThen(t, w, 1, 7, s)
	}
}

// P16.6: a store that had nothing when it was begun, and is written to: the first Step is the last one.
func TestHeldNothing(t *testing.T) {
	w := newWorld(t, state{})
	j := w.begin(t, none, false, 7, 2)
	for _, do := range writes() {
		do(w)
	}
	steps(t, j, 1, of(1, 1, 7, 0, 0), true, api.OK)
	saysThen(t, w, 1, 7, state{})
}

// someWrite is a random write, upon few keys.
func someWrite(r *rand.Rand) write {
	key, v := fmt.Sprintf("k%d", r.Intn(12)), num(r.Int63n(100))
	name := fmt.Sprintf("p%d", r.Intn(5))
	args := r.Intn(17)
	switch r.Intn(6) {
	case 0:
		return func(w world) { w.values.Delete(key) }
	case 1:
		return func(w world) { w.procs.Delete(name) }
	case 2:
		return func(w world) { w.procs.Put(name, api.Proc{Name: name, Args: args}) }
	}
	return func(w world) { w.values.Put(key, v) }
}

// somePicksOf is random picks.
func somePicksOf(r *rand.Rand) api.Picks {
	files := make([]api.Pick, r.Intn(9))
	for i := range files {
		files[i] = api.Pick{Done: r.Intn(6), Lost: []int{r.Intn(20), r.Intn(20)}[:r.Intn(3)]}
	}
	return api.Picks{Names: r.Intn(12), Files: files}
}

// P16.2 to P16.6: everything upon everything, with faults, crashes and little room, against the chapter's words.
func TestAgainstWords(t *testing.T) {
	seen := map[string]int{}
	for seed := range int64(3000) {
		r := rand.New(rand.NewSource(seed))
		room, files := 200+r.Intn(3000), 2+r.Intn(9)
		p := &pair{t: t, why: "random", w: worldOn(newDisk(t, room, files), state{}), by: worldOn(newDisk(t, room, files), state{})}
		was, has, mark := none, false, 0
		for range 60 {
			switch r.Intn(12) {
			case 0, 1, 2:
				do := someWrite(r)
				p.each(do)
			case 3:
				mark += r.Intn(3)
				seen[fmt.Sprint("begin ", p.begin(was, has, mark, 1+r.Intn(5)))]++
			case 4:
				p.plan(api.Plan{Strokes: []api.Fault{{At: 1 + r.Intn(12), Kind: 1 + r.Intn(3)}, {At: 1 + r.Intn(12), Kind: r.Intn(5)}}})
			case 5:
				if r.Intn(3) == 0 || p.w.d.Off() {
					p.drop() // what was open ahead of a crash is used no more
					p.crash(somePicksOf(r))
				}
			case 6:
				if r.Intn(4) == 0 {
					p.drop()
					seen["drop"]++
				}
				seen[fmt.Sprint("collect ", p.collect(was, has))]++
			case 7:
				if r.Intn(8) == 0 {
					name := []string{slowName(r.Intn(9)), "manifest.new", "x"}[r.Intn(3)]
					p.each(func(w world) { w.d.Hand(name, []byte{1}) })
				}
			default:
				m, is, e := p.step(r.Intn(7))
				seen[fmt.Sprint("step ", is, " ", e)]++
				if is {
					was, has = m, true
				}
			}
			if t.Failed() {
				t.Fatalf("seed %d", seed)
			}
		}
	}
	for _, what := range []string{
		"begin treadle: error 0", "begin treadle: error 8", "begin treadle: error 9", "begin treadle: error 10", "begin treadle: error 11", "begin treadle: error 18",
		"collect treadle: error 0", "collect treadle: error 8", "collect treadle: error 10", "collect treadle: error 11", "drop",
		"step false treadle: error 0", "step false treadle: error 1", "step false treadle: error 6", "step false treadle: error 8", "step false treadle: error 9", "step false treadle: error 10",
		"step false treadle: error 11", "step false treadle: error 19", "step true treadle: error 0", "step true treadle: error 8", "step true treadle: error 10", "step true treadle: error 11",
	} {
		if seen[what] < 10 {
			t.Errorf("%s was met %d times", what, seen[what])
		}
	}
}
