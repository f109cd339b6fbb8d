package revive_test

import (
	"bytes"
	"math/rand"
	"testing"

	"treadle/api"
	"treadle/ckpt"
	"treadle/crew"
	"treadle/disk"
	"treadle/frame"
	"treadle/revive"
	"treadle/seglog"
)

// life is a store that is written, flushed, marked and trimmed, with faults and crashes, and opened again and again: what P0.1,
// P0.3 and P0.4 say of the whole has to hold of an opening wherever the chapters 13 and 16 have left the directory.
type life struct {
	t        *testing.T
	r        *rand.Rand
	d        *disk.Disk
	s        *revive.State // none, while it is not open
	log      *seglog.Log
	job      *ckpt.Job
	m        api.Manifest // the one that counts
	has      bool
	row      []api.Txn // what the last opening has found, and what was accepted since
	durable  int
	openings int
	lost     int // openings that have found less than was accepted
	torn     int // openings that have cut something off
}

// forges tells whether a crash has forged: a file's whole frames are not the beginning of what was told of it.
func forges(d *disk.Disk, told []api.FileBytes) bool {
	for _, f := range d.Files() {
		if !bytes.HasPrefix(dir(told).bytes(f.Name), f.Data[:frame.Whole(f.Data)]) {
			return true
		}
	}
	return false
}

// open opens the disk; if nothing is planned it has to go through.
func (l *life) open(planned bool) {
	if !planned {
		l.d.Plan(api.Plan{})
	}
	s, e := revive.Open(l.d, l.r.Intn(4))
	if e != api.OK {
		if !planned || e == api.ErrDamage {
			l.t.Fatalf("P0.3: an opening of %s: %v", inWords(sightOf(l.d)), e)
		}
		return
	}
	last := s.Opened.Last
	if last < l.durable || last > len(l.row) {
		l.t.Fatalf("P0.1: the last one is %d; %d were durable, %d accepted", last, l.durable, len(l.row))
	}
	want := newState()
	for _, x := range l.row[:last] {
		want.do(x)
	}
	if is := stateOf(s.Values, s.Procs); is.words() != want.words() {
		l.t.Fatalf("P0.1: the state of %d is %s, not %s", last, is.words(), want.words())
	}
	l.openings++
	if last < len(l.row) {
		l.lost++
	}
	if s.Opened.Torn > 0 {
		l.torn++
	}
	l.take(s)
}

// take makes a State the one that is written on.
func (l *life) take(s *revive.State) {
	log, e := seglog.Start(l.d, 60+l.r.Intn(200), s.Segments, s.Next)
	if e != api.OK {
		l.t.Fatalf("P13.3: Start(%v, %d): %v", s.Segments, s.Next, e)
	}
	l.s, l.log, l.job = s, log, nil
	l.row, l.durable = l.row[:s.Opened.Last], s.Opened.Last
	l.m, l.has = s.Manifest, s.Has
	if s.Has && s.Opened.Base != s.Manifest.Mark {
		l.m.File, l.m.Mark, l.m.Prev, l.m.PrevMark = l.m.Prev, l.m.PrevMark, 0, 0
	}
}

// someTxns is transactions, many of which look at what others write.
func (l *life) someTxns() []api.Txn {
	var out []api.Txn
	for range 1 + l.r.Intn(3) {
		if len(l.row)+len(out) < 2 {
			out = append(out, history(len(l.row)+len(out)+1))
			continue
		}
		out = append(out, history(3+l.r.Intn(40)))
	}
	return out
}

func (l *life) submit() {
	txns := l.someTxns()
	if _, e := l.log.Append(txns); e != api.OK {
		return
	}
	crew.Run(l.s.Values, l.s.Procs, txns, 2)
	l.row = append(l.row, txns...)
}

func (l *life) flush() bool {
	e := l.log.Flush()
	if e == api.OK {
		l.durable = l.log.Durable()
		return true
	}
	l.job.Drop()
	l.job = nil
	return false
}

func (l *life) start() {
	if l.job != nil || !l.flush() || l.durable == l.m.Mark {
		return
	}
	if j, e := ckpt.Begin(l.d, l.s.Values, l.s.Procs, l.m, l.has, l.durable, 2); e == api.OK {
		l.job = j
	}
}

func (l *life) step() {
	if l.job == nil || l.log.Broken() {
		return
	}
	m, is, e := l.job.Step(2)
	if is {
		l.m, l.has = m, true
	}
	if is || e != api.OK {
		l.job = nil
	}
}

func (l *life) trim() {
	if l.job != nil || !l.has || l.log.Broken() || ckpt.Collect(l.d, l.m, true) != api.OK {
		return
	}
	l.log.Trim(l.m.Mark)
}

func (l *life) close() {
	l.job.Drop()
	l.s, l.log, l.job = nil, nil, nil
}

// somePicksOf is any picks.
func somePicksOf(r *rand.Rand) api.Picks {
	p := api.Picks{Names: r.Intn(12) - 1}
	for range r.Intn(40) {
		pick := api.Pick{Done: r.Intn(6) - 1}
		for range r.Intn(4) {
			pick.Lost = append(pick.Lost, r.Intn(20)-2)
		}
		p.Files = append(p.Files, pick)
	}
	return p
}

// act does one thing, and tells whether life goes on: not behind a crash that forges.
func (l *life) act() bool {
	r := l.r
	switch k := r.Intn(24); {
	case k == 0:
		l.d.Plan(strokeFails(1+r.Intn(9), 1+r.Intn(3)))
	case k == 3 && l.s != nil && !l.log.Broken():
		l.submit()
		l.d.Plan(strokeFails(2+r.Intn(4), api.FaultOff)) // many of a flush's strokes are of these numbers
		l.flush()
	case k == 1 || l.d.Off():
		l.close()
		return !forges(l.d, l.d.Crash(somePicksOf(r)))
	case l.s == nil:
		if k < 6 {
			l.d.Plan(somePlan(r))
			l.open(true)
		} else {
			l.open(false)
		}
	case k == 2:
		l.close()
	case k < 7:
		l.flush()
	case k < 9:
		l.start()
	case k < 14:
		l.step()
	case k < 16:
		l.trim()
	default:
		l.submit()
	}
	return true
}

// P0.1, P0.3, P0.4 of an opening: whatever happens to a store whose crashes forge nothing, it opens, and shows a first part of what was accepted, all that was durable in it.
func TestLife(t *testing.T) {
	var sum life
	for seed := range int64(400) {
		d, _ := disk.New(20000, 40)
		l := &life{t: t, r: rand.New(rand.NewSource(seed)), d: d}
		for range 150 {
			if !l.act() {
				break
			}
		}
		sum.openings, sum.lost, sum.torn = sum.openings+l.openings, sum.lost+l.lost, sum.torn+l.torn
	}
	if sum.openings < 2000 || sum.lost < 500 || sum.torn < 100 {
		t.Errorf("%d openings, %d of which have found less than was accepted, %d have cut something off", sum.openings, sum.lost, sum.torn)
	}
}
