package script_test

import (
	"fmt"
	"math"
	"reflect"
	"slices"
	"strings"
	"testing"

	"treadle/api"
	"treadle/asm"
	"treadle/disk"
	"treadle/engine"
	"treadle/script"
)

// theWorld is one with that room.
func theWorld(t testing.TB, room, files int) *script.World {
	t.Helper()
	w, e := script.New(room, files)
	if e != api.OK || w == nil {
		t.Fatalf("P19.3: New(%d, %d): %v", room, files, e)
	}
	return w
}

// does does steps, each of which must answer OK; the answer is the last one's.
func does(t testing.TB, w *script.World, steps ...api.Step) (a api.Answer) {
	t.Helper()
	for _, s := range steps {
		if a = w.Do(s); a.Err != api.OK {
			t.Fatalf("step %s: %v", told(s), a.Err)
		}
	}
	return a
}

// ends brings a checkpoint to its end.
func ends(t testing.TB, w *script.World) {
	t.Helper()
	for range 100 {
		if does(t, w, step(9)).Done {
			return
		}
	}
	t.Fatal("no end")
}

// tidied is an answer in which lists without an element are none.
func tidied(a api.Answer) api.Answer {
	a.Outcomes, a.Entries, a.Files = listed(a.Outcomes), listed(a.Entries), listed(a.Files)
	for i, x := range a.Outcomes {
		a.Outcomes[i].Told = listed(x.Told)
	}
	for i, x := range a.Files {
		a.Files[i].Data = listed(x.Data)
	}
	return a
}

// answers asks that a step answers just that.
func answers(t testing.TB, w *script.World, s api.Step, want api.Answer) {
	t.Helper()
	if got := tidied(w.Do(s)); !reflect.DeepEqual(got, tidied(want)) {
		t.Errorf("P19.4: step %s: %s, not %s", told(s), told(got), told(want))
	}
}

// errs asks that a step answers an error and nothing else.
func errs(t testing.TB, w *script.World, s api.Step, err api.Errno) {
	t.Helper()
	answers(t, w, s, api.Answer{Err: err})
}

// namesOf is the names of a world's files.
func namesOf(w *script.World) []string {
	var out []string
	for _, f := range w.Do(plain(api.StepFiles)).Files {
		out = append(out, f.Name)
	}
	return out
}

const (
	firstLog = "log-000000000001"
	ok       = api.OK
)

var (
	outcome = api.Outcome{Status: api.StatusDone}
	usual   = open(100, 2, 1)
	putA1   = call("put2", text("a"), num(1))
	flush   = plain(api.StepFlush)
	sight   = plain(api.StepSight)
	files   = plain(api.StepFiles)
	start   = plain(api.StepStart)
	trim    = plain(api.StepTrim)
	closing = plain(api.StepClose)
)

// engineSteps is the steps that ask the engine, with the answer to each where there is none.
func engineSteps() []api.Step {
	return []api.Step{submit(putA1), submit(), submit(api.Txn{Kind: 9}), flush, read("a"), read(""), span("a", "b", 3), span("", "", -1), start, step(1), step(-1), trim, closing}
}

// P19.3: rooms that a disk may have, and those that it may not.
func TestNew(t *testing.T) {
	for _, x := range [][2]int{{0, 0}, {1, 1}, {1000, 9}, {api.MaxRoom, api.MaxFiles}, {0, api.MaxFiles}, {api.MaxRoom, 0}} {
		w := theWorld(t, x[0], x[1])
		answers(t, w, files, api.Answer{})
		answers(t, w, sight, api.Answer{})
		errs(t, w, flush, api.ErrClosed)
	}
	for _, x := range [][2]int{{-1, 1}, {api.MaxRoom + 1, 1}, {1, -1}, {1, api.MaxFiles + 1}, {-1, -1}, {math.MaxInt, 1}, {math.MinInt, 1}, {1, math.MaxInt}, {1, math.MinInt}, {math.MaxInt, math.MinInt}} {
		if w, e := script.New(x[0], x[1]); w != nil || e != api.ErrArg {
			t.Errorf("P19.3: New(%d, %d): %v, %v", x[0], x[1], w, e)
		}
	}
	// The room is the disk's: just so many bytes and files go in.
	w := theWorld(t, 5, 2)
	errs(t, w, hand("a", "123456"), api.ErrFull)
	errs(t, w, hand("a", "12345"), ok)
	errs(t, w, hand("b", "1"), api.ErrFull)
	errs(t, w, hand("b", ""), ok)
	errs(t, w, hand("c", ""), api.ErrFiles)
	answers(t, w, files, api.Answer{Files: []api.FileBytes{{Name: "a", Data: []byte("12345")}, {Name: "b"}}})
}

// P19.3, P19.4: the chapter's own.
func TestWorldKnown(t *testing.T) {
	w := theWorld(t, 1000, 9)
	errs(t, w, flush, api.ErrClosed)
	answers(t, w, sight, api.Answer{})
	errs(t, w, plain(0), api.ErrStep)
	errs(t, w, open(0, 2, 1), api.ErrArg)
	answers(t, w, usual, api.Answer{})
	errs(t, w, usual, api.ErrOrder)
	answers(t, w, files, api.Answer{})
	answers(t, w, submit(define(put2()), putA1), api.Answer{N: 1, Outcomes: []api.Outcome{outcome, outcome}})
	answers(t, w, read("a"), api.Answer{Value: num(1)})
	answers(t, w, flush, api.Answer{N: 2})
	log := w.Do(files).Files
	if len(log) != 1 || log[0].Name != firstLog || len(log[0].Data) == 0 {
		t.Fatalf("P19.4: %s", told(log))
	}
	answers(t, w, crash(0), api.Answer{Files: log})
	errs(t, w, read("a"), api.ErrClosed)
	answers(t, w, usual, api.Answer{Opened: api.Opened{Base: 0, Last: 2, Replayed: 2}})
	answers(t, w, read("a"), api.Answer{Value: num(1)})
}

// P19.3: a zero World has a disk without room, which keeps what happens to it.
func TestZeroWorld(t *testing.T) {
	for _, s := range engineSteps() {
		errs(t, &script.World{}, s, api.ErrClosed)
	}
	for _, s := range []api.Step{sight, files, plan(nil, nil), crash(0), crash(5, api.Pick{Done: 1, Lost: []int{1}}), usual} {
		answers(t, &script.World{}, s, api.Answer{})
	}
	errs(t, &script.World{}, open(0, 1, 1), api.ErrArg)
	errs(t, &script.World{}, hand("a", ""), api.ErrFiles)
	errs(t, &script.World{}, hand("a b", ""), api.ErrName)
	errs(t, &script.World{}, plain(15), api.ErrStep)
	w := &script.World{}
	does(t, w, usual, submit(define(put2()), putA1))
	answers(t, w, read("a"), api.Answer{Value: num(1)})
	errs(t, w, flush, api.ErrFiles)
	answers(t, w, sight, api.Answer{Sight: api.Sight{Broken: true, Next: 3, Keys: 1}})
	errs(t, w, flush, api.ErrBroken)
	// The power stays off, so that it is one disk all the time.
	w = &script.World{}
	does(t, w, plan([]api.Fault{{At: 1, Kind: api.FaultOff}}, nil))
	errs(t, w, usual, api.ErrOff)
	errs(t, w, usual, api.ErrOff)
	does(t, w, crash(0), usual)
}

// P19.3, W8: of no World each step answers ErrArg and nothing else.
func TestNoWorld(t *testing.T) {
	var none *script.World
	for _, s := range append(append(each(), engineSteps()...), plain(0), plain(-1), plain(15), plain(math.MinInt)) {
		if a := none.Do(s); !reflect.DeepEqual(a, api.Answer{Err: api.ErrArg}) {
			t.Errorf("P19.3: %s of no World: %s", told(s), told(a))
		}
	}
}

// P19.4: a Kind that is none does nothing.
func TestNoStep(t *testing.T) {
	w := theWorld(t, 1000, 9)
	does(t, w, usual, submit(define(put2()), putA1), flush, start)
	was, had := w.Do(sight), w.Do(files)
	for _, kind := range []int{0, -1, 15, 16, 257, 256 + api.StepCrash, 1 << 32, math.MaxInt, math.MinInt, math.MinInt + 3} {
		errs(t, w, full(plain(kind)), api.ErrStep)
		answers(t, w, sight, was)
		answers(t, w, files, had)
	}
}

// P19.4: what a kind does not have is not looked at.
func TestNotLookedAt(t *testing.T) {
	w, by := theWorld(t, 3000, 9), theWorld(t, 3000, 9)
	steps := []api.Step{usual, submit(define(put2()), putA1, call("put2", text("b"), text("x"))), flush, read("a"), span("", "", 5), start, step(1), step(1), step(1), sight, trim, plan(nil, nil), files, closing, usual, hand("x", "y"), files, crash(0), usual, span("a", "a", 3)}
	for _, s := range steps {
		want := by.Do(s)
		if s.Kind != api.StepSubmit { // of transactions the engine looks at all
			s = full(s)
		}
		answers(t, w, s, want)
	}
}

// busy is a world in which a checkpoint is going on, with the keys a and b and something that is not durable.
func busy(t testing.TB) *script.World {
	w := theWorld(t, 3000, 9)
	does(t, w, usual, submit(define(put2()), putA1, call("put2", text("b"), num(2))), start, step(1), submit(call("put2", text("c"), text("new"))))
	return w
}

// P19.4: each row, with what it tells.
func TestRows(t *testing.T) {
	w := busy(t)
	answers(t, w, sight, api.Answer{Sight: api.Sight{Next: 5, Durable: 3, Going: true, Mark: 3, Keys: 3}})
	answers(t, w, read("b"), api.Answer{Value: num(2)})
	answers(t, w, read("never"), api.Answer{})
	answers(t, w, span("a", "b", 9), api.Answer{Entries: []api.Entry{{Key: "a", Value: num(1)}, {Key: "b", Value: num(2)}}})
	answers(t, w, span("b", "", 9), api.Answer{Entries: []api.Entry{{Key: "b", Value: num(2)}, {Key: "c", Value: text("new")}}})
	answers(t, w, span("", "", 1), api.Answer{Entries: []api.Entry{{Key: "a", Value: num(1)}}})
	answers(t, w, span("", "", 0), api.Answer{})
	tell, _, _ := asm.Parse("proc tell 1\narg r0 0\ntell r0\ntell r0\nneed r0 = r0\nend")
	need, _, _ := asm.Parse("proc need 1\narg r0 0\nneed r0 = r1\nend")
	answers(t, w, submit(define(tell), define(need), call("tell", text("x")), call("need", num(1)), call("gone"), call("tell")), api.Answer{N: 5, Outcomes: []api.Outcome{
		outcome, outcome, {Status: api.StatusDone, Told: []api.Value{text("x"), text("x")}}, {Status: api.StatusNeed, At: 1}, {Status: api.StatusName}, {Status: api.StatusArgs}}})
	answers(t, w, flush, api.Answer{N: 10})
	answers(t, w, step(1), api.Answer{})
	answers(t, w, step(9), api.Answer{Done: true})
	answers(t, w, trim, api.Answer{})
	answers(t, w, sight, api.Answer{Sight: api.Sight{Next: 11, Durable: 10, Base: 3, Keys: 3}})
	answers(t, w, closing, api.Answer{})
	answers(t, w, sight, api.Answer{Sight: api.Sight{Closed: true}})
	answers(t, w, usual, api.Answer{Opened: api.Opened{Base: 3, Last: 10, Replayed: 7}})
	answers(t, w, start, api.Answer{})
	// Torn bytes are told too.
	had := w.Do(files).Files
	log := had[len(had)-2]
	if !strings.HasPrefix(log.Name, "log-") {
		t.Fatal(namesOf(w))
	}
	does(t, w, hand(log.Name, string(log.Data)+"torn"))
	answers(t, w, usual, api.Answer{Opened: api.Opened{Base: 3, Last: 10, Replayed: 7, Torn: 4}})
	answers(t, w, plan([]api.Fault{{At: 1, Kind: api.FaultIO}}, nil), api.Answer{})
	errs(t, w, start, api.ErrIO)
}

// P19.4: each call with the errors that chapter 18 gives it.
func TestErrors(t *testing.T) {
	w := busy(t)
	errs(t, w, submit(), api.ErrArg)
	errs(t, w, submit(api.Txn{Kind: 3}), api.ErrArg)
	errs(t, w, submit(slices.Repeat([]api.Txn{putA1}, 65)...), api.ErrArg)
	errs(t, w, submit(call("9")), api.ErrName)
	errs(t, w, submit(call("p", text(long(257)))), api.ErrLong)
	errs(t, w, submit(call("p", slices.Repeat([]api.Value{num(1)}, 17)...)), api.ErrLong)
	errs(t, w, submit(api.Txn{Kind: api.TxnCall, Name: "p", Proc: put2()}), api.ErrForm)
	errs(t, w, submit(define(api.Proc{Name: "p", Args: 17})), api.ErrArg)
	errs(t, w, submit(slices.Repeat([]api.Txn{call("p", slices.Repeat([]api.Value{text(long(256))}, 16)...)}, 17)...), api.ErrLong)
	errs(t, w, span("", "", -1), api.ErrArg)
	errs(t, w, start, api.ErrBusy)
	errs(t, w, trim, api.ErrBusy)
	errs(t, w, step(0), api.ErrArg)
	ends(t, w)
	errs(t, w, step(1), api.ErrIdle)
	does(t, w, trim, start)
	ends(t, w)
	errs(t, w, start, api.ErrIdle)
	for _, rules := range []api.Step{open(0, 2, 1), open(-1, 2, 1), open(api.MaxRoom+1, 2, 1), open(100, 0, 1), open(100, 129, 1), open(100, -1, 1)} {
		errs(t, w, rules, api.ErrOrder) // the first error there is
		errs(t, theWorld(t, 100, 9), rules, api.ErrArg)
	}
	errs(t, theWorld(t, 100, 9), trim, api.ErrClosed)
	fresh := theWorld(t, 100, 9)
	does(t, fresh, usual)
	errs(t, fresh, trim, api.ErrIdle)
	errs(t, fresh, start, api.ErrIdle)
	// Faults of the disk, and what is broken behind them.
	for kind, e := range map[int]api.Errno{api.FaultOff: api.ErrOff, api.FaultIO: api.ErrIO, api.FaultFull: api.ErrFull} {
		w := busy(t)
		does(t, w, plan([]api.Fault{{At: 2, Kind: kind}}, nil))
		errs(t, w, flush, e)
		for _, s := range []api.Step{flush, submit(putA1), start, step(1), trim} {
			errs(t, w, s, api.ErrBroken)
		}
		answers(t, w, sight, api.Answer{Sight: api.Sight{Broken: true, Next: 5, Durable: 3, Keys: 3}})
		answers(t, w, read("c"), api.Answer{Value: text("new")})
		errs(t, w, usual, api.ErrOrder)
		does(t, w, closing, crash(0))
		does(t, w, plan(nil, []api.Fault{{At: 1, Kind: kind}}))
		errs(t, w, usual, e)
		does(t, w, crash(0))
		answers(t, w, usual, api.Answer{Opened: api.Opened{Last: 3, Replayed: 3}})
	}
	// A directory that does not fit together.
	w = theWorld(t, 100, 9)
	does(t, w, hand("log-000000000007", ""))
	errs(t, w, usual, api.ErrDamage)
	// A room that is full.
	w = theWorld(t, 20, 9)
	does(t, w, usual, submit(putA1))
	errs(t, w, flush, api.ErrFull)
}

// P19.4: which engine there is: none yet, open, closed, and behind each step that may change that.
func TestTheEngine(t *testing.T) {
	none := func(w *script.World, why string) {
		t.Helper()
		for _, s := range engineSteps() {
			if a := w.Do(s); !reflect.DeepEqual(tidied(a), api.Answer{Err: api.ErrClosed}) {
				t.Errorf("P19.4: %s: step %s: %s", why, told(s), told(a))
			}
		}
	}
	noneAtAll := func(w *script.World, why string) {
		t.Helper()
		none(w, why)
		if a := w.Do(sight); a.Sight.Closed {
			t.Errorf("P19.4: %s: %s", why, told(a))
		}
		answers(t, w, sight, api.Answer{})
	}
	closed := func(w *script.World, why string) {
		t.Helper()
		none(w, why)
		answers(t, w, sight, api.Answer{Sight: api.Sight{Closed: true}})
	}
	w := theWorld(t, 3000, 9)
	noneAtAll(w, "none yet")
	errs(t, w, open(0, 1, 1), api.ErrArg)
	noneAtAll(w, "behind a refused opening")
	does(t, w, usual, submit(define(put2()), putA1), flush)

	// Open: another opening changes nothing, sound or not; nor does a plan, or looking at files.
	was := w.Do(sight)
	for _, s := range []api.Step{usual, open(0, 0, 0), open(50, 1, 3)} {
		errs(t, w, s, api.ErrOrder)
		answers(t, w, sight, was)
	}
	does(t, w, plan(nil, []api.Fault{{At: 1, Kind: api.FaultIO}}), files, plan(nil, nil))
	answers(t, w, sight, was)
	answers(t, w, read("a"), api.Answer{Value: num(1)})

	// Closed: it is still the engine, also behind an opening that was refused, by its rules or by the disk.
	does(t, w, closing)
	closed(w, "closed")
	errs(t, w, open(0, 1, 1), api.ErrArg)
	closed(w, "closed, behind a refused opening")
	does(t, w, plan(nil, []api.Fault{{At: 1, Kind: api.FaultIO}}))
	errs(t, w, usual, api.ErrIO)
	closed(w, "closed, behind an opening that failed")
	does(t, w, plan(nil, nil), usual)
	answers(t, w, sight, was)

	// Behind a crash there is none, whether it was open or closed; an opening that fails behind it makes none.
	does(t, w, crash(0))
	noneAtAll(w, "behind a crash")
	errs(t, w, open(1, 0, 1), api.ErrArg)
	noneAtAll(w, "behind a crash and a refused opening")
	does(t, w, usual, closing, crash(3, api.Pick{Done: 1}))
	noneAtAll(w, "behind a close and a crash")
	does(t, w, crash(0), usual)
	answers(t, w, sight, was)

	// Behind a hand too, whatever it answers.
	for _, x := range []struct {
		s api.Step
		e api.Errno
	}{{hand("x", "y"), ok}, {hand("a b", ""), api.ErrName}, {hand("", ""), api.ErrName}, {hand("z", long(3000)), api.ErrFull}} {
		errs(t, w, x.s, x.e)
		noneAtAll(w, "behind a hand")
		does(t, w, usual)
		answers(t, w, sight, was)
		does(t, w, closing)
		errs(t, w, x.s, x.e)
		noneAtAll(w, "behind a close and a hand")
		does(t, w, usual)
	}
	for i := range 9 {
		w.Do(hand(fmt.Sprint("more", i), ""))
	}
	errs(t, w, hand("one.more", ""), api.ErrFiles)
	noneAtAll(w, "behind a hand too many")
	does(t, w, usual)

	// A broken one is open; it can be closed.
	does(t, w, submit(putA1), plan([]api.Fault{{At: 1, Kind: api.FaultOff}}, nil))
	errs(t, w, flush, api.ErrOff)
	errs(t, w, usual, api.ErrOrder)
	does(t, w, closing)
	errs(t, w, usual, api.ErrOff)
	closed(w, "closed, without power")
	errs(t, w, hand("x", "z"), ok) // whether the power is on or off
	noneAtAll(w, "behind a hand without power")
	errs(t, w, usual, api.ErrOff)
	does(t, w, crash(0), usual)
	answers(t, w, sight, was)
}

// P19.4: an engine that a crash or a hand took away is gone, with its checkpoint: the next one begins its own.
func TestTakenAway(t *testing.T) {
	for _, s := range []api.Step{crash(0), crash(-1, api.Pick{Done: -1}, api.Pick{Done: -1}, api.Pick{Done: -1}), hand("x", ""), hand(" ", "")} {
		w := busy(t)
		w.Do(s)
		errs(t, w, step(1), api.ErrClosed)
		answers(t, w, usual, api.Answer{Opened: api.Opened{Last: 3, Replayed: 3}})
		errs(t, w, step(1), api.ErrIdle)
		answers(t, w, read("c"), api.Answer{})
		does(t, w, start)
	}
}

// P19.4: what a crash tells is the files as if no sector had been lost; what they are then, the files tell.
func TestCrashTells(t *testing.T) {
	build := func() *script.World {
		w := theWorld(t, 3000, 9)
		does(t, w, usual, submit(define(put2())), flush, submit(putA1, putA1), submit(putA1), plan([]api.Fault{{At: 2, Kind: api.FaultOff}}, nil))
		errs(t, w, flush, api.ErrOff)
		return w
	}
	whole := build().Do(files).Files // with what was appended and not synced
	safe := build().Do(crash(0)).Files
	if len(whole) != 1 || len(safe) != 1 || len(whole[0].Data) <= len(safe[0].Data)+api.Sector {
		t.Fatalf("%s, %s", told(whole), told(safe))
	}
	for i, x := range []struct {
		s     api.Step
		tells []api.FileBytes
		zero  int // the bytes from there on are lost, up to the end of a sector
	}{
		{crash(0), safe, -1}, {crash(7, api.Pick{Lost: []int{0, 1, 2}}), safe, -1},
		{crash(0, api.Pick{Done: 1}), whole, -1}, {crash(0, api.Pick{Done: -1, Lost: []int{0}}), whole, -1},
		{crash(0, api.Pick{Done: 1, Lost: []int{-1}}), whole, (len(whole[0].Data) - 1) / api.Sector * api.Sector},
	} {
		w := build()
		answers(t, w, x.s, api.Answer{Files: x.tells})
		left := slices.Clone(x.tells[0].Data)
		for k := max(x.zero, 0); x.zero >= 0 && k < len(left); k++ {
			left[k] = 0
		}
		answers(t, w, files, api.Answer{Files: []api.FileBytes{{Name: firstLog, Data: left}}})
		if lost := !slices.Equal(left, x.tells[0].Data); lost != (i == 4) {
			t.Errorf("crash %d: lost %v", i, lost)
		}
	}
}

// byHand is a world by the chapter's table: the calls are done on a disk and an engine.
type byHand struct {
	d *disk.Disk
	x *engine.Engine
}

func newByHand(t testing.TB, room, files int) *byHand {
	d, e := disk.New(room, files)
	if e != api.OK {
		t.Fatal(e)
	}
	return &byHand{d: d}
}

func (w *byHand) do(s api.Step) (a api.Answer) {
	switch s.Kind {
	case api.StepOpen:
		if w.x != nil && !w.x.Sight().Closed {
			a.Err = api.ErrOrder
			return a
		}
		x, o, e := engine.Open(w.d, s.Rules)
		a.Opened, a.Err = o, e
		if e == api.OK {
			w.x = x
		}
	case api.StepSubmit:
		a.N, a.Outcomes, a.Err = w.x.Submit(s.Txns)
	case api.StepFlush:
		a.N, a.Err = w.x.Flush()
	case api.StepRead:
		a.Value, a.Err = w.x.Read(s.Key)
	case api.StepRange:
		a.Entries, a.Err = w.x.Range(s.Key, s.To, s.N)
	case api.StepStart:
		a.Err = w.x.Start()
	case api.StepStep:
		a.Done, a.Err = w.x.Step(s.N)
	case api.StepTrim:
		a.Err = w.x.Trim()
	case api.StepClose:
		a.Err = w.x.Close()
	case api.StepSight:
		a.Sight = w.x.Sight()
	case api.StepPlan:
		w.d.Plan(s.Plan)
	case api.StepCrash:
		a.Files, w.x = w.d.Crash(s.Picks), nil
	case api.StepHand:
		a.Err, w.x = w.d.Hand(s.Name, s.Data), nil
	case api.StepFiles:
		a.Files = w.d.Files()
	default:
		a.Err = api.ErrStep
	}
	return a
}

// P19.4: worlds in which all kinds of things are done, held against the table done by hand: each answer, and the files behind each step.
func TestRowsAtRandom(t *testing.T) {
	seen := map[int]map[api.Errno]int{}
	for seed := range int64(200) {
		room, most := []int{40000, 3000, 900}[seed%3], 5+int(seed%5)*8
		w, by := theWorld(t, room, most), newByHand(t, room, most)
		for i, s := range newPlay(seed).steps(120) {
			want := by.do(s)
			got := w.Do(s)
			if !reflect.DeepEqual(tidied(got), tidied(want)) {
				t.Fatalf("P19.4: play %d, step %d, %s: %s, not %s", seed, i, told(s), told(got), told(want))
			}
			if !reflect.DeepEqual(w.Do(files).Files, by.d.Files()) {
				t.Fatalf("P19.4: play %d: other files behind step %d, %s", seed, i, told(s))
			}
			if seen[s.Kind] == nil {
				seen[s.Kind] = map[api.Errno]int{}
			}
			seen[s.Kind][got.Err]++
		}
	}
	for kind := 1; kind <= 14; kind++ {
		if seen[kind][ok] < 50 {
			t.Errorf("kind %d: %v", kind, seen[kind])
		}
	}
	for kind, list := range map[int][]api.Errno{
		api.StepOpen:   {api.ErrOrder, api.ErrArg, api.ErrOff, api.ErrIO, api.ErrDamage},
		api.StepSubmit: {api.ErrClosed, api.ErrBroken, api.ErrArg},
		api.StepFlush:  {api.ErrClosed, api.ErrBroken, api.ErrOff, api.ErrIO, api.ErrFull},
		api.StepStart:  {api.ErrClosed, api.ErrBroken, api.ErrBusy, api.ErrIdle},
		api.StepStep:   {api.ErrClosed, api.ErrBroken, api.ErrIdle, api.ErrArg, api.ErrOff},
		api.StepTrim:   {api.ErrClosed, api.ErrBroken, api.ErrBusy, api.ErrIdle},
		api.StepRange:  {api.ErrClosed, api.ErrArg},
		api.StepHand:   {api.ErrName, api.ErrFull},
	} {
		for _, e := range list {
			if seen[kind][e] == 0 {
				t.Errorf("kind %d never answers %v: %v", kind, e, seen[kind])
			}
		}
	}
}
