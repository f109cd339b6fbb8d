package script_test

import (
	"bytes"
	"fmt"
	"maps"
	"math"
	"reflect"
	"slices"
	"strings"
	"testing"

	"treadle/api"
	"treadle/exec"
	"treadle/frame"
	"treadle/page"
	"treadle/script"
)

// state is which procedures and which keys there are, in plain maps; transactions are done on it one by one.
type state struct {
	procs  map[string]api.Proc
	values map[string]api.Value
}

func newState() state { return state{map[string]api.Proc{}, map[string]api.Value{}} }

// Get and Next make a state one that exec can look at.
func (s state) Get(key string) (api.Value, bool) {
	v, is := s.values[key]
	return v, is
}

func (s state) Next(above string) (string, bool) {
	for _, key := range slices.Sorted(maps.Keys(s.values)) {
		if key > above {
			return key, true
		}
	}
	return "", false
}

// span is the entries from one key to another, so many at most.
func (s state) span(from, to string, most int) []api.Entry {
	var out []api.Entry
	for _, key := range slices.Sorted(maps.Keys(s.values)) {
		if key >= from && (to == "" || key <= to) && len(out) < most {
			out = append(out, api.Entry{Key: key, Value: s.values[key]})
		}
	}
	return out
}

// do is what a transaction does to a state, and what comes of it.
func (s state) do(x api.Txn) api.Outcome {
	if x.Kind == api.TxnDefine {
		s.procs[x.Proc.Name] = x.Proc
		return api.Outcome{Status: api.StatusDone}
	}
	p, is := s.procs[x.Name]
	if !is {
		return api.Outcome{Status: api.StatusName}
	}
	f := exec.Run(s, p, x.Args)
	for _, w := range f.Writes {
		delete(s.values, w.Key)
		if w.Value.Kind != api.KindNone {
			s.values[w.Key] = w.Value
		}
	}
	return f.Outcome
}

// fold is the state of transactions from the beginning on.
func fold(txns []api.Txn) state {
	s := newState()
	for _, x := range txns {
		s.do(x)
	}
	return s
}

// model is what a script's answers are held against: the transactions, and no disk.
type model struct {
	t       testing.TB
	why     string
	w       *script.World
	row     []api.Txn // what the last opening has found, and what was accepted since
	now     state     // its fold
	durable int       // so many were found or acknowledged
	planned bool      // something may fail
	off     bool      // the power is
	opened  int
	lost    int // openings that have found less than was accepted
	ended   int // checkpoints
	trims   int
}

func newModel(t testing.TB, why string, w *script.World) *model {
	return &model{t: t, why: why, w: w, now: newState()}
}

// forged tells whether a crash has forged, by what it told and what is there.
func forged(told, left []api.FileBytes) bool {
	for i, f := range left {
		if f.Name != told[i].Name || !bytes.HasPrefix(told[i].Data, f.Data[:frame.Whole(f.Data)]) {
			return true
		}
	}
	return false
}

// isOpen tells whether there is an engine that is not closed.
func (m *model) isOpen() bool { return m.w.Do(read("")).Err != api.ErrClosed }

// follows does a step, and holds its answer against the model; it tells whether the script goes on: not behind a crash that forges.
func (m *model) follows(s api.Step) bool {
	m.t.Helper()
	wasOpen, ahead := m.isOpen(), m.w.Do(sight).Sight
	a := m.w.Do(s)
	m.off = m.off || a.Err == api.ErrOff
	switch s.Kind {
	case api.StepPlan:
		m.planned = len(s.Plan.Strokes)+len(s.Plan.Reads) > 0
	case api.StepCrash:
		m.planned, m.off = false, false
		return !forged(a.Files, m.w.Do(files).Files)
	case api.StepOpen:
		m.opens(s, a, wasOpen)
	case api.StepSubmit:
		if a.Err == ok {
			m.submits(s, a)
		}
	case api.StepFlush:
		m.flushes(a, ahead)
	case api.StepStart:
		if m.w.Do(sight).Sight.Durable == len(m.row) && wasOpen {
			m.durable = len(m.row) // its own flush has gone through
		}
	case api.StepStep:
		if a.Done {
			m.ended++
			m.snapshot(ahead.Mark)
		}
	case api.StepTrim:
		if a.Err == ok {
			m.trims++
			m.trimmed()
		}
	}
	m.shows()
	return true
}

func (m *model) opens(s api.Step, a api.Answer, wasOpen bool) {
	m.t.Helper()
	sound := s.Rules.Segment > 0 && s.Rules.Segment <= api.MaxRoom && s.Rules.Page > 0 && s.Rules.Page <= api.MaxPage
	if a.Err != ok {
		if !wasOpen && sound && !m.planned && !m.off || a.Err == api.ErrDamage {
			m.t.Fatalf("P0.3: %s: an opening of which nothing fails: %v", m.why, a.Err)
		}
		return
	}
	o := a.Opened
	if o.Last < m.durable || o.Last > len(m.row) || o.Base > o.Last || o.Replayed != o.Last-o.Base {
		m.t.Fatalf("P0.1: %s: %+v; %d were durable, %d accepted", m.why, o, m.durable, len(m.row))
	}
	m.opened++
	if o.Last < len(m.row) {
		m.lost++
	}
	m.row, m.durable = m.row[:o.Last:o.Last], o.Last
	m.now = fold(m.row)
	if d := m.w.Do(sight).Sight.Durable; d != o.Last {
		m.t.Fatalf("P0.1: %s: %d are durable behind %+v", m.why, d, o)
	}
}

func (m *model) submits(s api.Step, a api.Answer) {
	m.t.Helper()
	var want []api.Outcome
	for _, x := range s.Txns {
		want = append(want, m.now.do(x))
	}
	if a.N != len(m.row)+1 || !reflect.DeepEqual(tidied(a).Outcomes, tidied(api.Answer{Outcomes: want}).Outcomes) {
		m.t.Fatalf("P0.2: %s: %s: %d, %s, not %d, %s", m.why, told(s), a.N, told(a.Outcomes), len(m.row)+1, told(want))
	}
	m.row = append(m.row, s.Txns...)
}

func (m *model) flushes(a api.Answer, ahead api.Sight) {
	m.t.Helper()
	switch {
	case a.Err == ok && a.N != len(m.row):
		m.t.Fatalf("P0.2: %s: Flush: %d, and %d were accepted", m.why, a.N, len(m.row))
	case a.Err == ok:
		m.durable = a.N
	case a.Err != api.ErrClosed:
		if now := m.w.Do(sight).Sight; !now.Broken || now.Durable != ahead.Durable {
			m.t.Fatalf("P0.3: %s: a Flush fails with %v: %+v", m.why, a.Err, now)
		}
		errs(m.t, m.w, flush, api.ErrBroken)
		errs(m.t, m.w, submit(putA1), api.ErrBroken)
	}
}

// shows asks for the state, if there is one to be read.
func (m *model) shows() {
	m.t.Helper()
	a := m.w.Do(span("", "", math.MaxInt))
	if a.Err == api.ErrClosed {
		return
	}
	if want := m.now.span("", "", math.MaxInt); a.Err != ok || !slices.Equal(a.Entries, want) {
		m.t.Fatalf("P0.1: %s: %v, %s, not %s", m.why, a.Err, told(a.Entries), told(want))
	}
}

// ckpts is the checkpoints of a directory.
func ckpts(all []api.FileBytes) []api.FileBytes {
	return slices.DeleteFunc(slices.Clone(all), func(f api.FileBytes) bool { return !strings.HasPrefix(f.Name, "ckpt-") })
}

// snapshot asks that a file says the state at a mark.
func (m *model) snapshot(mark int) {
	m.t.Helper()
	want := fold(m.row[:mark])
	for _, f := range ckpts(m.w.Do(files).Files) {
		i, e := page.Read(f.Data)
		if e != ok || i.Mark != mark {
			continue
		}
		if !slices.Equal(i.Entries, want.span("", "", math.MaxInt)) || len(i.Procs) != len(want.procs) {
			m.t.Fatalf("P0.7: %s: %s says %s, not %s", m.why, f.Name, told(i), told(want))
		}
		for _, p := range i.Procs {
			if w := want.procs[p.Name]; p.Args != w.Args || !slices.Equal(p.Code, w.Code) {
				m.t.Fatalf("P0.7: %s: %s says %s, not %s", m.why, f.Name, told(p), told(w))
			}
		}
		return
	}
	m.t.Fatalf("P0.7: %s: no checkpoint of %d", m.why, mark)
}

// trimmed asks for what is left behind a trim.
func (m *model) trimmed() {
	m.t.Helper()
	all := m.w.Do(files).Files
	base := m.w.Do(sight).Sight.Base
	needless := 0 // segments that end ahead of what is behind the base
	var first []int
	for _, f := range all {
		if rest, is := strings.CutPrefix(f.Name, "log-"); is {
			n := 0
			fmt.Sscanf(rest, "%x", &n)
			first = append(first, n)
		} else if f.Name != "manifest" && !strings.HasPrefix(f.Name, "ckpt-") {
			m.t.Fatalf("P0.5: %s: %s is left", m.why, f.Name)
		}
	}
	for i := 1; i < len(first); i++ {
		if first[i] <= base+1 {
			needless++
		}
	}
	if n := len(ckpts(all)); n < 1 || n > 2 || needless > 0 {
		m.t.Fatalf("P0.5: %s: %d checkpoints, the segments %v, the base %d", m.why, n, first, base)
	}
}

// within asks that what is on the disk is within its room.
func within(t testing.TB, w *script.World, room, most int) {
	t.Helper()
	all := w.Do(files).Files
	sum := 0
	for _, f := range all {
		sum += len(f.Data)
	}
	if sum > room || len(all) > most {
		t.Fatalf("P0.9: %d bytes in %d files", sum, len(all))
	}
}

// P0.1, P0.3, P0.5, P0.7, P0.9: scripts with faults and crashes, on disks with much room and with little.
func TestCrashedScripts(t *testing.T) {
	opened, lost, ended, trims := 0, 0, 0, 0
	for seed := range int64(250) {
		room, most := []int{40000, 40000, 3000, 1200}[seed%4], 6+int(seed%5)*8
		p := newPlay(seed)
		p.hands = false
		m := newModel(t, fmt.Sprint("play ", seed), theWorld(t, room, most))
		for _, s := range p.steps(200) {
			if !m.follows(s) {
				break
			}
			within(t, m.w, room, most)
			// An opening of which nothing fails goes through, whatever has failed before.
			if s.Kind == api.StepCrash && !m.follows(p.rules()) {
				break
			}
		}
		opened, lost, ended, trims = opened+m.opened, lost+m.lost, ended+m.ended, trims+m.trims
	}
	if opened < 1500 || lost < 300 || ended < 150 || trims < 100 {
		t.Errorf("%d openings, %d of which have found less; %d checkpoints, %d trims", opened, lost, ended, trims)
	}
}

// P0.2: scripts without plans, crashes and hands, on a disk with room: each answer is the plain model's.
func TestCalmScripts(t *testing.T) {
	for seed := range int64(150) {
		p := newPlay(seed)
		p.calm = true
		m := newModel(t, fmt.Sprint("calm play ", seed), theWorld(t, api.MaxRoom, api.MaxFiles))
		for _, s := range p.steps(200) {
			m.follows(s)
			if !m.isOpen() {
				continue
			}
			switch s.Kind {
			case api.StepRead:
				answers(t, m.w, s, api.Answer{Value: m.now.values[s.Key]})
			case api.StepRange:
				if s.N >= 0 {
					answers(t, m.w, s, api.Answer{Entries: m.now.span(s.Key, s.To, s.N)})
				}
			}
		}
		// Behind Close and Open it is the fold of what was durable.
		row, durable := m.row, m.durable
		m.w.Do(closing)
		m.follows(p.rules())
		if len(m.row) != durable || !reflect.DeepEqual(m.row, row[:durable]) || !m.isOpen() {
			t.Fatalf("P0.2: calm play %d: %d behind Close and Open, and %d were durable", seed, len(m.row), durable)
		}
	}
}

// P0.6: on any number of workers each step answers the same.
func TestWorkers(t *testing.T) {
	for seed := range int64(30) {
		steps := newPlay(seed).steps(150)
		var want []api.Answer
		for k, workers := range []int{1, 2, 5, 16, 99, 0, -3} {
			w := theWorld(t, 6000, 20)
			for i, s := range steps {
				s.Rules.Workers = workers
				a := w.Do(s)
				if k == 0 {
					want = append(want, a)
				} else if !reflect.DeepEqual(a, want[i]) {
					t.Fatalf("P0.6: play %d, %d workers, step %d, %s: %s, not %s", seed, workers, i, told(s), told(a), told(want[i]))
				}
			}
		}
	}
}

// ending is what an opening ends in.
type ending struct {
	last, base, durable int
	state               string
}

func endOf(t testing.TB, w *script.World, rules api.Step) ending {
	t.Helper()
	a := w.Do(rules)
	if a.Err != ok {
		t.Fatalf("P0.3: %v", a.Err)
	}
	return ending{a.Opened.Last, a.Opened.Base, w.Do(sight).Sight.Durable, fmt.Sprint(w.Do(span("", "", math.MaxInt)).Entries)}
}

// P0.4: an opening that is stopped by the power any number of times, and then goes through, ends as one that goes through at once; so does one behind Close.
func TestStoppedOpenings(t *testing.T) {
	stopped := 0
	for seed := range int64(60) {
		p := newPlay(seed)
		p.hands = false
		var steps []api.Step
		for _, s := range p.steps(60 + p.r.Intn(60)) {
			if s.Kind != api.StepCrash {
				steps = append(steps, s)
			}
		}
		steps = append(steps, p.picks())
		played := func() (*script.World, bool) {
			w := theWorld(t, []int{40000, 3000}[seed%2], 30)
			var a api.Answer
			for _, s := range steps {
				a = w.Do(s)
			}
			return w, !forged(a.Files, w.Do(files).Files)
		}
		w, sound := played()
		if !sound {
			continue
		}
		want := endOf(t, w, usual)
		does(t, w, closing)
		if again := endOf(t, w, open(70, 1, 3)); again != want {
			t.Fatalf("P0.4: play %d: behind Close %+v, not %+v", seed, again, want)
		}
		for round := range 12 {
			w, sound := played()
			for range 1 + round%4 {
				if round%2 == 0 {
					w.Do(plan([]api.Fault{{At: 1 + p.r.Intn(4), Kind: api.FaultOff}}, nil))
				} else {
					w.Do(plan(nil, []api.Fault{{At: 1 + p.r.Intn(4), Kind: api.FaultOff}}))
				}
				if w.Do(usual).Err == api.ErrOff {
					stopped++
				} else {
					does(t, w, closing)
				}
				sound = sound && !forged(w.Do(p.picks()).Files, w.Do(files).Files)
			}
			if !sound {
				continue
			}
			if got := endOf(t, w, usual); got != want {
				t.Fatalf("P0.4: play %d: behind openings that were stopped %+v, not %+v", seed, got, want)
			}
		}
	}
	if stopped < 200 {
		t.Errorf("%d openings were stopped", stopped)
	}
}

// P0.5: an opening behind a trim replays just the transactions behind the base.
func TestReplayedBehindTrim(t *testing.T) {
	for n := 1; n < 12; n++ {
		w := theWorld(t, 40000, 60)
		does(t, w, usual)
		for i := 1; i <= 12; i++ {
			does(t, w, submit(history(2*i-1), history(2*i)), flush)
			if i == n {
				does(t, w, start)
				ends(t, w)
			}
		}
		does(t, w, trim)
		base := w.Do(sight).Sight.Base
		does(t, w, closing)
		if o := w.Do(usual).Opened; base != 2*n || o != (api.Opened{Base: base, Last: 24, Replayed: 24 - base}) {
			t.Errorf("P0.5: %+v, and the base was %d", o, base)
		}
	}
}

// P0.8: of any files an opening answers an error or a state; the same files, the same answer.
func TestAnyDirectory(t *testing.T) {
	seen := map[api.Errno]int{}
	for seed := range int64(400) {
		p := newPlay(seed)
		p.hands = false
		from := theWorld(t, 20000, 30)
		for _, s := range p.steps(60) {
			from.Do(s)
		}
		all := from.Do(files).Files
		one, two := theWorld(t, 40000, 60), theWorld(t, 40000, 60)
		for range p.r.Intn(3) {
			if len(all) > 0 {
				spoilFile(p, &all[p.r.Intn(len(all))])
			}
		}
		slices.SortFunc(all, func(a, b api.FileBytes) int { return strings.Compare(a.Name, b.Name) })
		all = slices.CompactFunc(all, func(a, b api.FileBytes) bool { return a.Name == b.Name })
		for i := range all {
			does(t, one, hand(all[i].Name, string(all[i].Data)))
			k := len(all) - 1 - i
			does(t, two, hand(all[k].Name, string(all[k].Data)))
		}
		a, b := one.Do(usual), two.Do(usual)
		if !reflect.DeepEqual(a, b) || !reflect.DeepEqual(one.Do(span("", "", 99)), two.Do(span("", "", 99))) || !reflect.DeepEqual(one.Do(files), two.Do(files)) {
			t.Fatalf("P0.8: directory %d: %s and %s", seed, told(a), told(b))
		}
		if a.Err != ok && !reflect.DeepEqual(a, api.Answer{Err: a.Err}) {
			t.Fatalf("W3: directory %d: %s", seed, told(a))
		}
		seen[a.Err]++
	}
	if seen[ok] < 50 || seen[api.ErrDamage] < 50 {
		t.Errorf("%v", seen)
	}
}

// spoilFile changes a file: a byte, its length, or its name.
func spoilFile(p *play, f *api.FileBytes) {
	switch k := p.r.Intn(4); {
	case k == 0 && len(f.Data) > 0:
		f.Data[p.r.Intn(len(f.Data))] ^= byte(1 + p.r.Intn(255))
	case k == 1:
		f.Data = f.Data[:p.r.Intn(len(f.Data)+1)]
	case k == 2:
		f.Data = append(f.Data, long(p.r.Intn(20))...)
	case k == 3:
		f.Name = []string{"manifest", "manifest.new", firstLog, "log-000000000009", "ckpt-000000000001", "ckpt-000000000007", "x"}[p.r.Intn(7)]
	}
}
