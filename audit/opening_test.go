package audit_test

import (
	"bytes"
	"fmt"
	"maps"
	"math/rand"
	"reflect"
	"slices"
	"testing"

	"treadle/api"
	"treadle/audit"
	"treadle/script"
)

// play makes up the steps of a world: transactions, flushes, checkpoints, trims, openings, faults and crashes.
type play struct {
	r    *rand.Rand
	next int // of the history
}

func (p *play) rules() api.Step {
	return api.Step{Kind: api.StepOpen, Rules: api.Rules{Segment: 30 + p.r.Intn(200), Page: 1 + p.r.Intn(4), Workers: p.r.Intn(4)}}
}

func (p *play) txns() api.Step {
	s := api.Step{Kind: api.StepSubmit}
	for range 1 + p.r.Intn(4) {
		s.Txns = append(s.Txns, history(p.next))
		p.next++
	}
	return s
}

func (p *play) plan() api.Step {
	s := api.Step{Kind: api.StepPlan}
	for range p.r.Intn(3) {
		s.Plan.Strokes = append(s.Plan.Strokes, api.Fault{At: 1 + p.r.Intn(9), Kind: 1 + p.r.Intn(3)})
	}
	if p.r.Intn(4) == 0 {
		s.Plan.Reads = append(s.Plan.Reads, api.Fault{At: 1 + p.r.Intn(4), Kind: 1 + p.r.Intn(3)})
	}
	return s
}

func (p *play) crash() api.Step {
	s := api.Step{Kind: api.StepCrash, Picks: api.Picks{Names: p.r.Intn(12) - 1}}
	for range p.r.Intn(20) {
		pick := api.Pick{Done: p.r.Intn(6) - 1}
		for range p.r.Intn(4) {
			pick.Lost = append(pick.Lost, p.r.Intn(20)-2)
		}
		s.Picks.Files = append(s.Picks.Files, pick)
	}
	return s
}

func (p *play) hand() api.Step {
	names := []string{"x", "log-1", logName(1), logName(2 + p.r.Intn(9)), "manifest", "manifest.new", ckptName(1 + p.r.Intn(3))}
	rows := [][]byte{nil, {1}, make([]byte, 40), rows(1, 2, 1), image(1, 2), man(of(1, 1, 2, 0, 0)).Data}
	return api.Step{Kind: api.StepHand, Name: names[p.r.Intn(len(names))], Data: rows[p.r.Intn(len(rows))]}
}

func (p *play) step(hands bool) api.Step {
	switch k := p.r.Intn(100); {
	case k < 28:
		return p.txns()
	case k < 42:
		return api.Step{Kind: api.StepFlush}
	case k < 50:
		return api.Step{Kind: api.StepStart}
	case k < 70:
		return api.Step{Kind: api.StepStep, N: 1 + p.r.Intn(5)}
	case k < 75:
		return api.Step{Kind: api.StepTrim}
	case k < 78:
		return api.Step{Kind: api.StepClose}
	case k < 85:
		return p.rules()
	case k < 91:
		return p.plan()
	case k < 98 || !hands:
		return p.crash()
	}
	return p.hand()
}

// cutShort submits transactions, and lets the power go off while they are flushed, so that a crash tears them.
func (p *play) cutShort(w *script.World) {
	w.Do(p.rules()) // if nothing is open
	w.Do(p.txns())
	w.Do(api.Step{Kind: api.StepPlan, Plan: api.Plan{Strokes: []api.Fault{{At: 1 + p.r.Intn(4), Kind: api.FaultOff}}}})
	w.Do(api.Step{Kind: api.StepFlush})
}

func filesOf(w *script.World) dir { return w.Do(api.Step{Kind: api.StepFiles}).Files }

func worldOf(t testing.TB, room, most int, x dir) *script.World {
	t.Helper()
	w, e := script.New(room, most)
	if e != api.OK {
		t.Fatal(e)
	}
	for _, f := range x {
		if a := w.Do(api.Step{Kind: api.StepHand, Name: f.Name, Data: f.Data}); a.Err != api.OK {
			t.Fatal(f.Name, a.Err)
		}
	}
	return w
}

// opensAs asks that a world in which nothing is open, and nothing fails, opens as was told; it is open then, if it can be.
func opensAs(t testing.TB, why string, w *script.World, rules api.Step, told api.Report) {
	t.Helper()
	if a := w.Do(rules); !reflect.DeepEqual(a, api.Answer{Err: told.Err, Opened: told.Opened}) {
		t.Errorf("P0.10: %s: an opening answers %+v, and %+v was told", why, a, told)
	}
}

// tally is how many directories there were of each kind.
type tally map[string]int

func (n tally) count(r api.Report) {
	n[fmt.Sprint(r.Err)]++
	for what, is := range map[string]bool{
		"torn": r.Opened.Torn > 0, "manifest": r.Has, "ahead": r.Err == api.OK && r.Has && r.Opened.Base != r.Manifest.Mark,
		"left": len(r.Left) > 0, "replayed": r.Opened.Replayed > 0, "several": len(r.Segments) > 2,
	} {
		if is {
			n[what]++
		}
	}
}

func (n tally) atLeast(t testing.TB, count int, all ...string) {
	t.Helper()
	for _, what := range all {
		if n[what] < count {
			t.Errorf("the directories are too much alike: %v", n)
		}
	}
}

// P20.1, P0.10: at each step of scripts with faults and crashes: what is told of the directory is what an opening of it answers;
// behind a crash also what the very world answers that was crashed.
func TestScripts(t *testing.T) {
	n := tally{}
	for seed := range int64(120) {
		p := &play{r: rand.New(rand.NewSource(seed)), next: 1}
		room := []int{40000, 40000, 2000, 800}[seed%4]
		w := worldOf(t, room, 5+int(seed%6)*6, nil)
		w.Do(p.rules())
		var was dir
		for i := range 120 {
			s := p.step(seed%3 == 0)
			if i%10 == 9 {
				p.cutShort(w)
				s = p.crash()
			}
			w.Do(s)
			x, why := filesOf(w), fmt.Sprintf("play %d, step %d", seed, i)
			if s.Kind != api.StepCrash && reflect.DeepEqual(x, was) {
				continue
			}
			was = x
			got := agrees(t, why, x)
			n.count(got)
			if s.Kind == api.StepCrash || s.Kind == api.StepHand {
				readsInOrder(t, why, x, got)
			}
			if s.Kind == api.StepCrash {
				opensAs(t, why, w, p.rules(), got)
			}
			if t.Failed() {
				t.FailNow()
			}
		}
	}
	n.atLeast(t, 100, fmt.Sprint(api.OK), fmt.Sprint(api.ErrDamage), "manifest", "left", "replayed", "several")
	n.atLeast(t, 30, "torn")
}

// someLog is a log up to a number, in segments and batches of any size; where it can, a batch ends at each mark.
func someLog(r *rand.Rand, first, last int, marks ...int) dir {
	var x dir
	for first <= last {
		var counts []int
		next := first
		for range r.Intn(4) + 1 {
			count := 1 + r.Intn(4)
			for _, m := range marks {
				if next <= m && r.Intn(20) > 0 {
					count = min(count, m-next+1)
				}
			}
			if count = min(count, last-next+1); count > 0 {
				counts = append(counts, count)
				next += count
			}
		}
		x = append(x, seg(first, counts...))
		first = next
	}
	if r.Intn(4) == 0 {
		x = append(x, seg(first))
	}
	return x
}

// someDir is a directory as a store leaves it: two checkpoints, one or none, and a log that goes on from one of them, or from the beginning.
func someDir(r *rand.Rand) dir {
	mark := 1 + r.Intn(9)
	ahead := r.Intn(mark)
	last := mark + r.Intn(8)
	switch r.Intn(4) {
	case 0:
		return someLog(r, 1, last)
	case 1:
		return dir{man(of(1, 4, mark, 0, 0)), ck(4, mark)}.with(someLog(r, 1+r.Intn(mark+1), last, mark)...)
	case 2:
		return dir{man(of(5, 9, mark, 5, ahead)), ck(9, mark), ck(5, ahead)}.with(someLog(r, 1+r.Intn(mark+1), last, ahead, mark)...)
	}
	return dir{man(of(5, 9, mark, 5, ahead)), ck(5, ahead)}.with(someLog(r, 1+r.Intn(ahead+1), last, ahead, mark)...)
}

// harmed is a directory to which something has happened: bytes changed, cut, added; files gone, or come.
func (x dir) harmed(r *rand.Rand) dir {
	if len(x) == 0 {
		return x.with(file(logName(1), []byte{1}))
	}
	f := x[r.Intn(len(x))]
	switch r.Intn(10) {
	case 0:
		return x.without(f.Name)
	case 1, 2:
		if len(f.Data) > 0 {
			return x.turned(f.Name, r.Intn(len(f.Data)))
		}
	case 3, 4:
		return x.cut(f.Name, r.Intn(len(f.Data)+1))
	case 5:
		tail := make([]byte, 1+r.Intn(20))
		r.Read(tail)
		return x.more(f.Name, tail...)
	case 6:
		return x.with(file(logName(1+r.Intn(12)), f.Data))
	case 7:
		return x.with(file(ckptName([]int{4, 5, 9}[r.Intn(3)]), f.Data))
	case 8:
		return x.with(seg(1+r.Intn(12), 1+r.Intn(3)))
	case 9:
		return x.with(file(append(nearly(), odd()...)[r.Intn(40)], f.Data))
	}
	return x
}

// P20.1, P0.10, P20.3: directories as a store leaves them, harmed in no, one or more ways.
func TestHarmed(t *testing.T) {
	n := tally{}
	for seed := range int64(6000) {
		r := rand.New(rand.NewSource(seed))
		x := someDir(r)
		for range r.Intn(4) {
			x = x.harmed(r)
		}
		x = x.shuffled(r)
		why := fmt.Sprint("seed ", seed)
		got := agrees(t, why, x)
		readsInOrder(t, why, x, got)
		n.count(got)
		if got.Opened.Torn > 0 {
			want := got
			want.Opened.Torn = 0
			if cut := agrees(t, why, x.cutOff(got.Segments, got.Opened.Torn)); !same(cut, want) {
				t.Errorf("P20.3: %s: %+v, not %+v", why, cut, want)
			}
		}
		if t.Failed() {
			t.FailNow()
		}
	}
	n.atLeast(t, 200, fmt.Sprint(api.OK), fmt.Sprint(api.ErrDamage), "torn", "manifest", "ahead", "left", "replayed", "several")
}

// P20.1, P0.10: directories that scripts have left, with changed, cut and added bytes.
func TestScriptsHarmed(t *testing.T) {
	n := tally{}
	for seed := range int64(400) {
		p := &play{r: rand.New(rand.NewSource(seed)), next: 1}
		w := worldOf(t, 20000, 30, nil)
		w.Do(p.rules())
		for range 60 + p.r.Intn(100) {
			s := p.step(false)
			// Where nothing is trimmed, the log reaches the checkpoint ahead.
			if s.Kind != api.StepTrim || seed%2 == 0 {
				w.Do(s)
			}
		}
		left := filesOf(w)
		sound := audit.Look(left)
		for i := range 8 {
			x := left
			if i%3 == 0 && sound.Has && x.has(ckptName(sound.Manifest.File)) {
				x = x.cut(ckptName(sound.Manifest.File), 1)
			}
			for range 1 + p.r.Intn(2) {
				x = x.harmed(p.r)
			}
			why := fmt.Sprint("play ", seed)
			got := agrees(t, why, x)
			readsInOrder(t, why, x, got)
			n.count(got)
		}
		if t.Failed() {
			t.FailNow()
		}
	}
	n.atLeast(t, 100, fmt.Sprint(api.OK), fmt.Sprint(api.ErrDamage), "torn", "manifest", "left", "replayed", "several")
	n.atLeast(t, 30, "ahead")
}

// somePieces is bytes of all kinds of files; and those that fit a name.
func somePieces() ([][]byte, map[string][]byte) {
	fit := map[string][]byte{
		"manifest": man(of(5, 9, 4, 5, 0)).Data, "manifest.new": man(of(1, 4, 3, 0, 0)).Data, ckptName(4): image(4, 3), ckptName(5): image(5, 0), ckptName(9): image(9, 4),
		logName(1): rows(1, 1), logName(2): rows(2, 2, 1), logName(5): rows(5, 1), logName(most): rows(most, 1),
	}
	all := [][]byte{nil, {0}, make([]byte, 40), rows(1, 1, 2), rows(2, 3)}
	for _, data := range fit {
		all = append(all, data)
	}
	slices.SortFunc(all, bytes.Compare)
	return all, fit
}

// P0.8, P0.10, W1: files of any bytes under the store's own names: an opening answers an error or a state, the same again, and as was told.
func TestAnyBytes(t *testing.T) {
	pieces, fit := somePieces()
	names := slices.Sorted(maps.Keys(fit))
	n := tally{}
	for seed := range int64(4000) {
		r := rand.New(rand.NewSource(seed))
		var x dir
		for _, name := range names {
			if r.Intn(3) == 0 || name == logName(most) && r.Intn(4) > 0 {
				continue
			}
			data := pieces[r.Intn(len(pieces))]
			if r.Intn(3) > 0 {
				data = fit[name]
			}
			if r.Intn(6) == 0 {
				data = slices.Concat(data, pieces[r.Intn(len(pieces))])
			}
			if r.Intn(8) == 0 && len(data) > 0 {
				data = slices.Clone(data)
				data[r.Intn(len(data))] ^= byte(1 + r.Intn(255))
			}
			x = append(x, file(name, data))
		}
		why := fmt.Sprint("seed ", seed)
		got := agrees(t, why, x)
		n.count(got)
		if got.Err != api.OK && got.Err != api.ErrDamage {
			t.Errorf("P20.1: %s: %v", why, got.Err)
		}
		rules := api.Step{Kind: api.StepOpen, Rules: api.Rules{Segment: 100, Page: 3, Workers: 2}}
		all := api.Step{Kind: api.StepRange, N: 1000}
		one, two := worldOf(t, api.MaxRoom, 60, x), worldOf(t, api.MaxRoom, 60, x.shuffled(r))
		opensAs(t, "P0.8: "+why, one, rules, got)
		opensAs(t, "P0.8: "+why, two, rules, got)
		if !reflect.DeepEqual(one.Do(all), two.Do(all)) || !reflect.DeepEqual(filesOf(one), filesOf(two)) {
			t.Errorf("P0.8: %s: two openings of %s are not the same", why, x.words())
		}
		if t.Failed() {
			t.FailNow()
		}
	}
	n.atLeast(t, 50, fmt.Sprint(api.OK), fmt.Sprint(api.ErrDamage), "torn", "manifest", "ahead", "replayed")
}

// P0.10: behind an opening the directory is told to be what it has made of it.
func TestBehindAnOpening(t *testing.T) {
	for seed := range int64(500) {
		r := rand.New(rand.NewSource(seed))
		x := someDir(r)
		for range r.Intn(3) {
			x = x.harmed(r)
		}
		x = slices.DeleteFunc(x, func(f api.FileBytes) bool { return slices.Contains(odd(), f.Name) || slices.Contains(nearly(), f.Name) })
		told := audit.Look(x)
		w := worldOf(t, api.MaxRoom, 60, x)
		opensAs(t, fmt.Sprint("seed ", seed), w, api.Step{Kind: api.StepOpen, Rules: api.Rules{Segment: 100, Page: 3}}, told)
		told.Opened.Torn = 0
		if got := audit.Look(filesOf(w)); !same(got, told) {
			t.Fatalf("P20.3: seed %d: behind an opening %+v, not %+v", seed, got, told)
		}
	}
}

// FuzzLook: files of any bytes, and one of any name.
func FuzzLook(f *testing.F) {
	f.Add(man(of(1, 4, 3, 0, 0)).Data, image(4, 3), rows(1, 3, 2), "log-000000000006")
	f.Add([]byte{}, []byte{}, []byte{}, "")
	f.Fuzz(func(t *testing.T, m, c, l []byte, name string) {
		x := dir{file(name, l), file("manifest", m), file(ckptName(4), c), file(logName(1), l)}
		agrees(t, "fuzz", x)
		agrees(t, "fuzz", x[1:])
		agrees(t, "fuzz", x.without("manifest"))
	})
}
