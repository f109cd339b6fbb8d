package engine_test

import (
	"bytes"
	"fmt"
	"math/rand"
	"slices"
	"testing"

	"treadle/api"
	"treadle/disk"
	"treadle/engine"
	"treadle/frame"
)

// forges tells whether a crash has forged: a file's whole frames are not the beginning of what was told of it.
func forges(d *disk.Disk, told []api.FileBytes) bool {
	for _, f := range d.Files() {
		if !bytes.HasPrefix(dir(told).bytes(f.Name), f.Data[:frame.Whole(f.Data)]) {
			return true
		}
	}
	return false
}

// picksFor is picks of all kinds for what is pending on a disk.
func picksFor(d *disk.Disk) []api.Picks {
	names, files := d.Pending()
	var out []api.Picks
	for n := range names + 1 {
		out = append(out, api.Picks{Names: n})
		for _, done := range []int{0, 1, -1} {
			for _, lost := range [][]int{nil, {0}, {-1}, {0, 1, 2, 3}} {
				out = append(out, api.Picks{Names: n, Files: slices.Repeat([]api.Pick{{Done: done, Lost: lost}}, len(files))})
			}
		}
	}
	return out
}

// life is a store that is written, flushed, marked, trimmed and closed, with faults and crashes, and opened again and again.
// Each call is held against the slow Engine's, and all of them against the fold of what was accepted.
type life struct {
	*pair
	r        *rand.Rand
	row      []api.Txn // what the last opening has found, and what was accepted since
	now      state     // its fold
	durable  int       // the last one that was acknowledged, or found
	base     int       // at least that one is in the checkpoint that a crash leaves
	openings int
	lost     int // openings that have found less than was accepted
	ends     int // checkpoints that came to their end
	told     int // manifests that were told with an error
	trims    int // that went through
	refused  int // calls that answered an error
}

// holds asks for what has to hold at each moment.
func (l *life) holds(call string) {
	l.t.Helper()
	if l.x == nil || l.x.Sight().Closed {
		return
	}
	s := l.x.Sight()
	if got := entriesOf(l.t, l.x); !slices.Equal(got, l.now.entries()) || s.Keys != len(l.now.values) {
		l.t.Fatalf("P18.10: %s: %s: %d keys, %v, not %v", l.why, call, s.Keys, got, l.now.entries())
	}
	if s.Next != len(l.row)+1 || s.Durable != l.durable || s.Durable < s.Base || s.Durable >= s.Next || s.Base < l.base {
		l.t.Fatalf("P18.11: %s: %s: %+v; %d were accepted, %d are durable, the base was %d", l.why, call, s, len(l.row), l.durable, l.base)
	}
	if s.Going && (s.Broken || s.Mark <= s.Base || s.Mark > s.Durable) || !s.Going && s.Mark != 0 {
		l.t.Fatalf("P18.9: %s: %s: %+v", l.why, call, s)
	}
	l.base = s.Base
}

// asked is what a call has come to: one that is refused without a stroke has changed nothing, and none that has an error a state, Next or (but by Start's own flush) Durable.
func (l *life) asked(call string, ahead api.Sight, disk sight, e api.Errno) {
	l.t.Helper()
	if e != api.OK {
		l.refused++
	}
	if e != api.OK && l.d.Strokes() == disk.strokes && !(ahead.Going && e == api.ErrOff) && l.x.Sight() != ahead && !l.x.Sight().Broken {
		l.t.Fatalf("P18.12: %s: %s answers %v: %+v, and was %+v", l.why, call, e, l.x.Sight(), ahead)
	}
	l.holds(call)
}

// does does one call of the Engine.
func (l *life) does(call string, act func() api.Errno) {
	l.t.Helper()
	ahead, disk := l.x.Sight(), sightOf(l.d)
	l.asked(call, ahead, disk, act())
}

// someTxns is transactions, many of which look at what others write; now and then they are no batch.
func (l *life) someTxns() []api.Txn {
	var out []api.Txn
	for range 1 + l.r.Intn(3) {
		if len(l.row)+len(out) < 2 {
			out = append(out, history(len(l.row)+len(out)+1))
			continue
		}
		out = append(out, history(3+l.r.Intn(40)))
	}
	if l.r.Intn(15) == 0 {
		out = append(out, api.Txn{Kind: l.r.Intn(4) * 3})
	}
	return out
}

func (l *life) submits() api.Errno {
	txns := l.someTxns()
	n, e := l.submit(txns)
	if e != api.OK {
		return e
	}
	if n != len(l.row)+1 {
		l.t.Fatalf("P18.2: %s: %d, behind %d", l.why, n, len(l.row))
	}
	l.row = append(l.row, txns...)
	l.now.all(txns)
	return e
}

func (l *life) flushes() api.Errno {
	n, e := l.flush()
	if e == api.OK {
		if n != len(l.row) {
			l.t.Fatalf("P18.11: %s: Flush: %d, and %d were accepted", l.why, n, len(l.row))
		}
		l.durable = n
	}
	return e
}

func (l *life) starts() api.Errno {
	ahead := l.x.Sight()
	e := l.start()
	if s := l.x.Sight(); !ahead.Closed && !ahead.Broken && !ahead.Going && !s.Broken {
		l.durable = len(l.row) // its own flush has gone through, whatever came behind it
	}
	return e
}

func (l *life) steps() api.Errno {
	was := l.s.m
	is, e := l.step(l.r.Intn(8) - 1)
	if is {
		l.ends++
	}
	if e != api.OK && l.s.m != was {
		l.told++
	}
	return e
}

func (l *life) trimmed() api.Errno {
	e := l.trim()
	if e == api.OK {
		l.trims++
	}
	return e
}

func (l *life) rules() api.Rules {
	return api.Rules{Segment: 40 + l.r.Intn(300), Page: 1 + l.r.Intn(4), Workers: l.r.Intn(5)}
}

// opens opens the disk; if nothing is planned it has to go through.
func (l *life) opens(planned bool) {
	l.t.Helper()
	if !planned {
		l.plan(api.Plan{})
	}
	o, e := l.open(l.rules())
	if e != api.OK {
		if !planned || e == api.ErrDamage {
			l.t.Fatalf("P0.3: %s: an opening of %s: %v", l.why, inWords(sightOf(l.d)), e)
		}
		return
	}
	if o.Last < l.durable || o.Last > len(l.row) || o.Base < l.base || o.Base > o.Last || o.Replayed != o.Last-o.Base {
		l.t.Fatalf("P18.13: %s: %+v; %d were durable, %d accepted, the base was %d", l.why, o, l.durable, len(l.row), l.base)
	}
	l.openings++
	if o.Last < len(l.row) {
		l.lost++
	}
	l.row, l.durable, l.base = l.row[:o.Last:o.Last], o.Last, o.Base
	l.now = newState()
	l.now.all(l.row)
	l.holds("Open")
}

// somePlan is a plan of any kind.
func somePlan(r *rand.Rand) api.Plan {
	var p api.Plan
	for range r.Intn(3) {
		p.Strokes = append(p.Strokes, api.Fault{At: 1 + r.Intn(9), Kind: 1 + r.Intn(3)})
	}
	if r.Intn(4) == 0 {
		p.Reads = append(p.Reads, api.Fault{At: 1 + r.Intn(5), Kind: 1 + r.Intn(3)})
	}
	return p
}

// somePicks is any picks.
func somePicks(r *rand.Rand) api.Picks {
	p := api.Picks{Names: r.Intn(12) - 1}
	for range r.Intn(40) {
		pick := api.Pick{Done: r.Intn(6) - 1}
		for range r.Intn(4) {
			pick.Lost = append(pick.Lost, r.Intn(20)-2)
		}
		p.Files = append(p.Files, pick)
	}
	return p
}

// act does one thing, and tells whether life goes on: not behind a crash that forges.
func (l *life) act() bool {
	r := l.r
	switch k := r.Intn(30); {
	case k == 0:
		l.plan(somePlan(r))
	case k == 1 && r.Intn(2) == 0 || l.d.Off() && r.Intn(2) == 0:
		return !forges(l.d, l.crash(somePicks(r)))
	case l.x == nil || l.x.Sight().Closed && k > 4:
		if k < 6 {
			l.plan(somePlan(r))
			l.opens(true)
		} else if !l.d.Off() {
			l.opens(false)
		}
	case k == 2 || l.x.Sight().Broken && r.Intn(3) == 0:
		l.does("Close", l.close)
	case k == 3:
		l.ranged([]string{"", "key 0", "made", "key 1"}[r.Intn(4)], []string{"", "key 1", "z"}[r.Intn(3)], r.Intn(6)-1)
	case k < 8:
		l.does("Flush", l.flushes)
	case k < 11:
		l.does("Start", l.starts)
	case k < 18:
		if k == 17 {
			l.plan(strokeFails(6+r.Intn(3), 1+r.Intn(3))) // the last strokes of the last step are of these numbers
		}
		l.does("Step", l.steps)
	case k < 20:
		l.does("Trim", l.trimmed)
	default:
		l.does("Submit", l.submits)
	}
	return true
}

// P18.10 to P18.13, and each call's own promise: lives with faults, crashes and openings between, on disks with much room and with little.
func TestLives(t *testing.T) {
	var sum life
	for seed := range int64(300) {
		room := []int{40000, 40000, 3000, 1500}[seed%4]
		l := &life{pair: newPair(t, room, 6+int(seed%7)*5), r: rand.New(rand.NewSource(seed)), now: newState()}
		l.why = fmt.Sprint("life ", seed)
		for range 200 {
			if !l.act() {
				break
			}
		}
		sum.openings, sum.lost, sum.refused = sum.openings+l.openings, sum.lost+l.lost, sum.refused+l.refused
		sum.ends, sum.told, sum.trims = sum.ends+l.ends, sum.told+l.told, sum.trims+l.trims
	}
	if sum.openings < 2000 || sum.lost < 1000 || sum.ends < 200 || sum.told < 20 || sum.trims < 500 || sum.refused < 5000 {
		t.Errorf("%d openings, %d of which have found less than was accepted; %d checkpoints ended, %d manifests were told with an error; %d trims; %d calls were refused",
			sum.openings, sum.lost, sum.ends, sum.told, sum.trims, sum.refused)
	}
}

// told is what a row of calls has come to when the power went off, or behind all of them.
type told struct {
	w        world
	accepted int
	durable  int
	base     int
}

// through does a row of calls on a disk, the power going off at a stroke, and keeps what was acknowledged.
func through(t testing.TB, k int) told {
	w := dir{}.opened(t, api.Rules{Segment: 120, Page: 3, Workers: 2})
	w.d.Plan(strokeFails(k, api.FaultOff))
	x := told{w: w}
	submit := func(count int) {
		if n, _, e := w.x.Submit(between(x.accepted+1, x.accepted+count)); e == api.OK && n == x.accepted+1 {
			x.accepted += count
		}
	}
	keep := func() {
		s := w.x.Sight()
		x.durable, x.base = s.Durable, s.Base
	}
	for round := range 3 {
		submit(3)
		submit(1)
		w.x.Flush()
		keep()
		submit(2)
		w.x.Start()
		keep()
		for range 4 {
			w.x.Step(2)
			submit(1)
			keep()
		}
		w.x.Flush()
		w.x.Trim()
		keep()
		submit(1 + round)
	}
	return x
}

// P18.13: the power goes off at each stroke of a life, and a crash picks all kinds of things: the directory opens with all that was acknowledged, and with the fold of what it tells.
func TestCrashes(t *testing.T) {
	whole := through(t, 0)
	strokes := whole.w.d.Strokes()
	if whole.durable < 20 || whole.base < 10 || strokes < 50 {
		t.Fatalf("%d durable, base %d, %d strokes", whole.durable, whole.base, strokes)
	}
	crashes := 0
	for k := 1; k <= strokes+1; k++ {
		for _, p := range picksFor(through(t, k).w.d) {
			x := through(t, k)
			if forges(x.w.d, x.w.d.Crash(p)) {
				continue
			}
			crashes++
			y, o, e := engine.Open(x.w.d, usual)
			if e != api.OK || o.Last < x.durable || o.Last > x.accepted || o.Base < x.base {
				t.Fatalf("P18.13: off at %d, crash %v: %+v, %v; %d were durable, %d accepted, the base %d", k, p, o, e, x.durable, x.accepted, x.base)
			}
			world{t, x.w.d, y}.has(fmt.Sprintf("P18.13: off at %d, crash %v", k, p), at(o.Last))
		}
	}
	if crashes < 1000 {
		t.Errorf("%d crashes", crashes)
	}
}

// P18.13: behind a Flush that answered OK, nothing between, a crash leaves just that, whatever is picked; checkpoints going on or not.
func TestFlushedIsThere(t *testing.T) {
	for n := 1; n < 12; n++ {
		for _, going := range []bool{false, true} {
			build := func() world {
				w := fresh(t)
				for i := 1; i <= n; i++ {
					w.submit(i, i)
					if i == n/2 && going {
						w.start(api.OK)
						w.step(1, i < 2, api.OK)
					}
				}
				w.flush(n)
				return w
			}
			for _, p := range picksFor(build().d) {
				w := build()
				w.d.Crash(p)
				x, o, e := engine.Open(w.d, usual)
				if e != api.OK || o.Last != n {
					t.Fatalf("P18.13: crash %v: %+v, %v, not %d", p, o, e, n)
				}
				world{t, w.d, x}.has("P18.13", at(n))
			}
		}
	}
}
