package engine_test

import (
	"reflect"
	"slices"
	"testing"

	"treadle/api"
	"treadle/ckpt"
	"treadle/disk"
	"treadle/engine"
	"treadle/exec"
	"treadle/proc"
	"treadle/revive"
	"treadle/seglog"
	"treadle/zigzag"
)

// state is which procedures and which keys there are, in plain maps; transactions are done on it one by one.
type state struct {
	procs  map[string]api.Proc
	values map[string]api.Value
}

func newState() state { return state{map[string]api.Proc{}, map[string]api.Value{}} }

// Get and Next make a state one that exec can look at.
func (s state) Get(key string) (api.Value, bool) {
	v, is := s.values[key]
	return v, is
}

func (s state) Next(above string) (string, bool) {
	for _, key := range sortedKeys(s.values) {
		if key > above {
			return key, true
		}
	}
	return "", false
}

func sortedKeys[V any](m map[string]V) []string {
	var keys []string
	for k := range m {
		keys = append(keys, k)
	}
	slices.Sort(keys)
	return keys
}

// entries is the keys in their order, with what they have.
func (s state) entries() []api.Entry {
	var out []api.Entry
	for _, key := range sortedKeys(s.values) {
		out = append(out, api.Entry{Key: key, Value: s.values[key]})
	}
	return out
}

// do is what a transaction does to a state, and what comes of it.
func (s state) do(x api.Txn) api.Outcome {
	if x.Kind == api.TxnDefine {
		if _, e := proc.Check(x.Proc); e != api.OK {
			panic(e)
		}
		s.procs[x.Proc.Name] = x.Proc
		return api.Outcome{Status: api.StatusDone}
	}
	p, is := s.procs[x.Name]
	if !is {
		return api.Outcome{Status: api.StatusName}
	}
	f := exec.Run(s, p, x.Args)
	for _, w := range f.Writes {
		delete(s.values, w.Key)
		if w.Value.Kind != api.KindNone {
			s.values[w.Key] = w.Value
		}
	}
	return f.Outcome
}

// all is what comes of some transactions, done one by one.
func (s state) all(txns []api.Txn) []api.Outcome {
	var out []api.Outcome
	for _, x := range txns {
		out = append(out, s.do(x))
	}
	return out
}

// slow is an Engine by the chapter's words, one by one, over the layers below; its transactions are run by hand.
type slow struct {
	d             *disk.Disk
	rules         api.Rules
	values        *zigzag.Store[api.Value]
	procs         *zigzag.Store[api.Proc]
	log           *seglog.Log
	m             api.Manifest
	has           bool
	base, mark    int
	job           *ckpt.Job
	closed, going bool
}

func slowOpen(d *disk.Disk, rules api.Rules) (*slow, api.Opened, api.Errno) {
	if d == nil || rules.Segment < 1 || rules.Segment > 4194304 || rules.Page < 1 || rules.Page > 128 {
		return nil, api.Opened{}, api.ErrArg
	}
	r, e := revive.Open(d, 1)
	if e != api.OK {
		return nil, api.Opened{}, e
	}
	s := &slow{d: d, rules: rules, values: r.Values, procs: r.Procs, m: r.Manifest, has: r.Has, base: r.Opened.Base}
	if s.log, e = seglog.Start(d, rules.Segment, r.Segments, r.Next); e != api.OK {
		panic(e)
	}
	if r.Has && r.Opened.Base != r.Manifest.Mark {
		s.m = api.Manifest{Number: r.Manifest.Number, File: r.Manifest.Prev, Mark: r.Manifest.PrevMark}
	}
	return s, r.Opened, api.OK
}

func (s *slow) Submit(txns []api.Txn) (int, []api.Outcome, api.Errno) {
	if s.closed {
		return 0, nil, api.ErrClosed
	}
	n, e := s.log.Append(txns)
	if e != api.OK {
		return 0, nil, e
	}
	var out []api.Outcome
	for _, x := range txns {
		out = append(out, s.run(x))
	}
	return n, out, api.OK
}

func (s *slow) run(x api.Txn) api.Outcome {
	if x.Kind == api.TxnDefine {
		s.procs.Put(x.Proc.Name, x.Proc)
		return api.Outcome{Status: api.StatusDone}
	}
	p, is := s.procs.Get(x.Name)
	if !is {
		return api.Outcome{Status: api.StatusName}
	}
	f := exec.Run(s.values, p, x.Args)
	for _, w := range f.Writes {
		if w.Value.Kind == api.KindNone {
			s.values.Delete(w.Key)
		} else {
			s.values.Put(w.Key, w.Value)
		}
	}
	return f.Outcome
}

func (s *slow) Flush() (int, api.Errno) {
	if s.closed {
		return 0, api.ErrClosed
	}
	if e := s.log.Flush(); e != api.OK {
		if s.going {
			s.job.Drop()
		}
		s.going = false
		return 0, e
	}
	return s.log.Durable(), api.OK
}

func (s *slow) Read(key string) (api.Value, api.Errno) {
	if s.closed {
		return api.Value{}, api.ErrClosed
	}
	v, _ := s.values.Get(key)
	return v, api.OK
}

func (s *slow) Range(from, to string, most int) ([]api.Entry, api.Errno) {
	if s.closed {
		return nil, api.ErrClosed
	}
	if most < 0 {
		return nil, api.ErrArg
	}
	var out []api.Entry
	for key, is := s.values.Next(""); is; key, is = s.values.Next(key) {
		if v, _ := s.values.Get(key); key >= from && (to == "" || key <= to) && len(out) < most {
			out = append(out, api.Entry{Key: key, Value: v})
		}
	}
	return out, api.OK
}

func (s *slow) Start() api.Errno {
	switch {
	case s.closed:
		return api.ErrClosed
	case s.log.Broken():
		return api.ErrBroken
	case s.going:
		return api.ErrBusy
	}
	mark, e := s.Flush()
	if e != api.OK {
		return e
	}
	if s.has && mark == s.m.Mark || !s.has && mark == 0 {
		return api.ErrIdle
	}
	j, e := ckpt.Begin(s.d, s.values, s.procs, s.m, s.has, mark, s.rules.Page)
	if e != api.OK {
		return e
	}
	s.job, s.going, s.mark = j, true, mark
	return api.OK
}

func (s *slow) Step(n int) (bool, api.Errno) {
	switch {
	case s.closed:
		return false, api.ErrClosed
	case s.log.Broken():
		return false, api.ErrBroken
	case !s.going:
		return false, api.ErrIdle
	}
	if n < 1 {
		return false, api.ErrArg
	}
	m, told, e := s.job.Step(n)
	if told {
		s.m, s.has = m, true
	}
	if told && e == api.OK {
		s.base = m.Mark
	}
	if told || e != api.OK {
		s.going = false
	}
	return told && e == api.OK, e
}

func (s *slow) Trim() api.Errno {
	switch {
	case s.closed:
		return api.ErrClosed
	case s.log.Broken():
		return api.ErrBroken
	case s.going:
		return api.ErrBusy
	case !s.has:
		return api.ErrIdle
	}
	if e := ckpt.Collect(s.d, s.m, true); e != api.OK {
		return e
	}
	s.base = s.m.Mark
	return s.log.Trim(s.base)
}

func (s *slow) Close() api.Errno {
	if s.closed {
		return api.ErrClosed
	}
	if s.going {
		s.job.Drop()
	}
	s.closed = true
	return api.OK
}

func (s *slow) Sight() api.Sight {
	if s.closed {
		return api.Sight{Closed: true}
	}
	out := api.Sight{Broken: s.log.Broken(), Next: s.log.Next(), Durable: s.log.Durable(), Base: s.base, Going: s.going, Keys: s.values.Len()}
	if s.going {
		out.Mark = s.mark
	}
	return out
}

// pair is an Engine and a slow one, each on a disk of its own, to which the same is done; what both answer and leave is held against each other.
type pair struct {
	t    testing.TB
	why  string
	d, b *disk.Disk
	x    *engine.Engine
	s    *slow
}

func newPair(t testing.TB, room, files int) *pair {
	d, e := disk.New(room, files)
	b, _ := disk.New(room, files)
	if e != api.OK {
		t.Fatal(e)
	}
	return &pair{t: t, d: d, b: b}
}

// both holds two answers against each other, and what both have come to.
func (p *pair) both(call string, got, want any) {
	p.t.Helper()
	if !reflect.DeepEqual(got, want) {
		p.t.Fatalf("%s: %s: %+v, not %+v", p.why, call, got, want)
	}
	if p.x != nil {
		if got, want := p.x.Sight(), p.s.Sight(); got != want {
			p.t.Fatalf("P18.9: %s: %s: %+v, not %+v", p.why, call, got, want)
		}
		got, e := p.x.Range("", "", 1<<40)
		if want, we := p.s.Range("", "", 1<<40); !slices.Equal(got, want) || e != we {
			p.t.Fatalf("P18.4: %s: %s: the state is %v, %v, not %v, %v", p.why, call, got, e, want, we)
		}
	}
	if got, want := sightOf(p.d), sightOf(p.b); !reflect.DeepEqual(got, want) {
		p.t.Fatalf("%s: %s: the disk has %s, not %s", p.why, call, inWords(got), inWords(want))
	}
}

// answers is what a call answers, as one thing.
type answers []any

func (p *pair) plan(x api.Plan) {
	p.d.Plan(x)
	p.b.Plan(x)
}

// crash tells what the disk told; nothing is open then.
func (p *pair) crash(picks api.Picks) []api.FileBytes {
	p.t.Helper()
	p.x, p.s = nil, nil
	told := p.d.Crash(picks)
	p.b.Crash(picks)
	p.both("Crash", nil, nil)
	return told
}

func (p *pair) open(rules api.Rules) (api.Opened, api.Errno) {
	p.t.Helper()
	x, o, e := engine.Open(p.d, rules)
	s, wo, we := slowOpen(p.b, rules)
	if (x == nil) != (e != api.OK) {
		p.t.Fatalf("P18.1: Open(%+v): %v, %v", rules, x, e)
	}
	p.x, p.s = nil, nil
	if x != nil && s != nil {
		p.x, p.s = x, s
	}
	p.both("Open", answers{o, e}, answers{wo, we})
	return o, e
}

func (p *pair) submit(txns []api.Txn) (int, api.Errno) {
	p.t.Helper()
	n, l, e := p.x.Submit(txns)
	wn, wl, we := p.s.Submit(txns)
	p.both("Submit", answers{n, l, e}, answers{wn, wl, we})
	return n, e
}

func (p *pair) flush() (int, api.Errno) {
	p.t.Helper()
	n, e := p.x.Flush()
	wn, we := p.s.Flush()
	p.both("Flush", answers{n, e}, answers{wn, we})
	return n, e
}

func (p *pair) ranged(from, to string, most int) {
	p.t.Helper()
	l, e := p.x.Range(from, to, most)
	wl, we := p.s.Range(from, to, most)
	p.both("Range", answers{l, e}, answers{wl, we})
	v, e := p.x.Read(from)
	wv, we := p.s.Read(from)
	p.both("Read", answers{v, e}, answers{wv, we})
}

func (p *pair) start() api.Errno {
	p.t.Helper()
	e, we := p.x.Start(), p.s.Start()
	p.both("Start", e, we)
	return e
}

func (p *pair) step(n int) (bool, api.Errno) {
	p.t.Helper()
	is, e := p.x.Step(n)
	wis, we := p.s.Step(n)
	p.both("Step", answers{is, e}, answers{wis, we})
	return is, e
}

func (p *pair) trim() api.Errno {
	p.t.Helper()
	e, we := p.x.Trim(), p.s.Trim()
	p.both("Trim", e, we)
	return e
}

func (p *pair) close() api.Errno {
	p.t.Helper()
	e, we := p.x.Close(), p.s.Close()
	p.both("Close", e, we)
	return e
}
