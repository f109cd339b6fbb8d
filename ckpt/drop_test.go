package ckpt_test

import (
	"testing"

	"treadle/api"
	"treadle/ckpt"
)

// P16.4: a Job that is going on, behind each number of Steps: the stores are free, the file stays as it is, no stroke.
func TestDrop(t *testing.T) {
	for _, s := range someStates() {
		for count := range max(1, s.size()) {
			p := paired(t, s, file("x", []byte{1}))
			p.begin(none, false, 7, 1)
			for range count {
				p.step(1)
			}
			was := sightOf(p.w)
			p.drop()
			now := sightOf(p.w)
			if now.strokes != was.strokes || now.reads != was.reads || now.marked != [2]bool{} {
				t.Errorf("P16.4: %d strokes, %d readings, marked %v", now.strokes-was.strokes, now.reads-was.reads, now.marked)
			}
			p.w.names(t, slowName(1), "x")
			idle(t, p.j)
			p.alike("ErrIdle")
			p.drop()
			// What was left is in no one's way.
			if e := p.begin(none, false, 8, 128); e != api.OK {
				t.Errorf("P16.4: once more: %v", e)
			}
			if m, is, e := p.step(128); m != of(1, 2, 8, 0, 0) || !is || e != api.OK {
				t.Errorf("P16.4: once more: %v, %v, %v", m, is, e)
			}
		}
	}
}

// P16.4: a disk that is off, or on which all is planned to fail, is nothing to Drop.
func TestDropOff(t *testing.T) {
	for _, s := range someStates() {
		p := paired(t, s)
		p.begin(none, false, 7, 128)
		p.plan(failsAt(1, api.FaultIO))
		if s.size()%2 == 0 {
			p.each(func(w world) { off(t, w.d) })
		}
		was := sightOf(p.w)
		p.drop()
		if now := sightOf(p.w); now.off != was.off || now.strokes != was.strokes {
			t.Errorf("P16.4: a stroke")
		}
		p.w.free(t)
	}
}

// P16.4: none, a zero one, one that is not going on: nothing, also where somebody else has marked the stores since.
func TestDropNothing(t *testing.T) {
	var no *ckpt.Job
	no.Drop()
	var zero ckpt.Job
	zero.Drop()
	idle(t, &zero)
	for _, end := range []func(w world, j *ckpt.Job){
		func(w world, j *ckpt.Job) { j.Step(128) },
		func(w world, j *ckpt.Job) { w.d.Plan(failsAt(1, api.FaultIO)); j.Step(128) },
		func(w world, j *ckpt.Job) { w.d.Plan(failsAt(5, api.FaultIO)); j.Step(128) },
		func(w world, j *ckpt.Job) { j.Drop() },
	} {
		w := newWorld(t, example())
		j := w.begin(t, none, false, 7, 128)
		end(w, j)
		w.values.Mark()
		w.procs.Mark()
		w.values.Put("a", num(99))
		was := sightOf(w)
		j.Drop()
		sameSight(t, "P16.4", sightOf(w), was)
	}
}
