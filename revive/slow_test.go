package revive_test

import (
	"regexp"
	"slices"
	"strconv"
	"testing"

	"treadle/api"
	"treadle/batch"
	"treadle/disk"
	"treadle/exec"
	"treadle/frame"
	"treadle/manifest"
	"treadle/page"
	"treadle/proc"
	"treadle/revive"
)

// What the chapter says, done slowly: step by step, on a disk of its own, the transactions one by one on plain maps.

// Get and Next make a state one that exec can look at.
func (s state) Get(key string) (api.Value, bool) {
	v, is := s.values[key]
	return v, is
}

func (s state) Next(above string) (string, bool) {
	for _, key := range sortedKeys(s.values) {
		if key > above {
			return key, true
		}
	}
	return "", false
}

// do is what a transaction does to a state.
func (s state) do(x api.Txn) {
	switch x.Kind {
	case api.TxnDefine:
		if _, e := proc.Check(x.Proc); e == api.OK {
			s.procs[x.Proc.Name] = x.Proc
		}
	case api.TxnCall:
		p, is := s.procs[x.Name]
		if !is {
			return
		}
		for _, w := range exec.Run(s, p, x.Args).Writes {
			delete(s.values, w.Key)
			if w.Value.Kind != api.KindNone {
				s.values[w.Key] = w.Value
			}
		}
	}
}

// shown is what a State shows.
type shown struct {
	state    string
	segments []api.Segment
	next     int
	manifest api.Manifest
	has      bool
	opened   api.Opened
}

func shownOf(s *revive.State) shown {
	return shown{stateOf(s.Values, s.Procs).words(), s.Segments, s.Next, s.Manifest, s.Has, s.Opened}
}

func (a shown) same(b shown) bool {
	return a.state == b.state && slices.Equal(a.segments, b.segments) && a.next == b.next && a.manifest == b.manifest && a.has == b.has && a.opened == b.opened
}

var logNames = regexp.MustCompile(`^log-([0-9a-f]{12})$`)

// slowFirst is the number of a segment's name, 0 of another one.
func slowFirst(name string) int {
	m := logNames.FindStringSubmatch(name)
	if m == nil {
		return 0
	}
	n, _ := strconv.ParseInt(m[1], 16, 64)
	return int(n)
}

// slowScan is the batches of a segment, and the place behind the last one.
func slowScan(data []byte, first int) ([]api.Batch, int) {
	var all []api.Batch
	at := 0
	for {
		body, end, e := frame.Next(data, at)
		if e != api.OK {
			return all, at
		}
		b, e := batch.Decode(body)
		if e != api.OK || b.First != first {
			return all, at
		}
		all = append(all, b)
		first, at = lastOf(b)+1, end
	}
}

func lastOf(b api.Batch) int { return b.First + len(b.Txns) - 1 }

// slowImage is the checkpoint of a number and a mark; nil, if none fits.
func slowImage(d *disk.Disk, names []string, number, mark int) (*api.Image, api.Errno) {
	if !slices.Contains(names, ckptName(number)) {
		return nil, api.OK
	}
	b, e := d.Read(ckptName(number))
	if e != api.OK {
		return nil, e
	}
	x, e := page.Read(b)
	if e != api.OK || x.Number != number || x.Mark != mark {
		return nil, api.OK
	}
	return &x, api.OK
}

// slowBase is the manifest, if there is one, and the checkpoint that the state begins with.
func slowBase(d *disk.Disk, names []string, numbers []int) (m api.Manifest, has bool, x api.Image, e api.Errno) {
	if !slices.Contains(names, "manifest") {
		return m, false, x, api.OK
	}
	b, e := d.Read("manifest")
	if e != api.OK {
		return m, false, x, e
	}
	m, e = manifest.Decode(b)
	if e != api.OK {
		return m, false, x, api.ErrDamage
	}
	fits, e := slowImage(d, names, m.File, m.Mark)
	if e != api.OK {
		return m, false, x, e
	}
	reached := slices.ContainsFunc(numbers, func(n int) bool { return n <= m.PrevMark+1 })
	if fits == nil && m.Prev > 0 && reached {
		fits, e = slowImage(d, names, m.Prev, m.PrevMark)
		if e != api.OK {
			return m, false, x, e
		}
	}
	if fits == nil {
		return m, false, x, api.ErrDamage
	}
	return m, true, *fits, api.OK
}

// slowLog is the segments with their Sizes, the batches of the needed ones, the last transaction, and how many bytes are torn.
func slowLog(d *disk.Disk, numbers []int, base int) (all []api.Segment, batches []api.Batch, last, torn int, e api.Errno) {
	fail := func(e api.Errno) ([]api.Segment, []api.Batch, int, int, api.Errno) { return nil, nil, 0, 0, e }
	needed := -1
	for i, n := range numbers {
		all = append(all, api.Segment{First: n})
		if n <= base+1 {
			needed = i
		}
	}
	if len(numbers) == 0 {
		return nil, nil, base, 0, api.OK
	}
	if needed < 0 {
		return fail(api.ErrDamage)
	}
	last = numbers[needed] - 1
	for i := needed; i < len(numbers); i++ {
		data, e := d.Read(logName(numbers[i]))
		if e != api.OK {
			return fail(e)
		}
		if i > needed && numbers[i] != last+1 {
			return fail(api.ErrDamage)
		}
		own, end := slowScan(data, numbers[i])
		for _, b := range own {
			if b.First <= base && lastOf(b) > base {
				return fail(api.ErrDamage)
			}
			last = lastOf(b)
		}
		all[i].Size, torn = end, len(data)-end
		if i < len(numbers)-1 && torn > 0 {
			return fail(api.ErrDamage)
		}
		batches = append(batches, own...)
	}
	if last < base {
		return fail(api.ErrDamage)
	}
	return all, batches, last, torn, api.OK
}

// slowOpen is an opening by the chapter's words.
func slowOpen(d *disk.Disk) (shown, api.Errno) {
	names, e := d.List()
	if e != api.OK {
		return shown{}, e
	}
	var numbers []int
	for _, name := range names {
		if n := slowFirst(name); n > 0 {
			numbers = append(numbers, n)
		}
	}
	slices.Sort(numbers)
	m, has, x, e := slowBase(d, names, numbers)
	if e != api.OK {
		return shown{}, e
	}
	all, batches, last, torn, e := slowLog(d, numbers, x.Mark)
	if e != api.OK {
		return shown{}, e
	}
	s := newState()
	for _, p := range x.Procs {
		s.procs[p.Name] = p
	}
	for _, y := range x.Entries {
		s.values[y.Key] = y.Value
	}
	for _, b := range batches {
		for i, y := range b.Txns {
			if b.First+i > x.Mark {
				s.do(y)
			}
		}
	}
	if torn > 0 {
		e = d.Truncate(logName(numbers[len(numbers)-1]), all[len(all)-1].Size)
	}
	if e == api.OK && len(numbers) > 0 {
		e = d.Sync(logName(numbers[len(numbers)-1]))
	}
	if e == api.OK {
		e = d.SyncNames()
	}
	if e != api.OK {
		return shown{}, e
	}
	opened := api.Opened{Base: x.Mark, Last: last, Replayed: last - x.Mark, Torn: torn}
	return shown{s.words(), all, last + 1, m, has, opened}, api.OK
}

// agrees opens a disk, and one that is like it slowly, and holds what comes of both against each other.
func agrees(t testing.TB, why string, build func() *disk.Disk, workers int) (*revive.State, api.Errno, *disk.Disk) {
	t.Helper()
	slow, d := build(), build()
	want, we := slowOpen(slow)
	ahead := sightOf(d)
	got, e := revive.Open(d, workers)
	if e != we || (got == nil) != (e != api.OK) {
		t.Errorf("%s: %s: %v, %v, not %v", why, dir(ahead.files).words(), got, e, we)
		return got, e, d
	}
	sameDisk(t, why, d, slow)
	if e == api.OK {
		wellMade(t, got)
		if is := shownOf(got); !is.same(want) {
			t.Errorf("%s: %s: %+v, not %+v", why, dir(ahead.files).words(), is, want)
		}
		return got, e, d
	}
	if d.Strokes() == ahead.strokes {
		behind := sightOf(d)
		behind.reads, behind.off = ahead.reads, ahead.off
		sameSight(t, "W3: "+why, behind, ahead)
	}
	return got, e, d
}

// wellMade asks for what each State has to be.
func wellMade(t testing.TB, s *revive.State) {
	t.Helper()
	if s.Values == nil || s.Procs == nil || s.Values.Marked() || s.Procs.Marked() {
		t.Fatalf("P17.1: the stores are %v, %v, or marked", s.Values, s.Procs)
	}
	is := stateOf(s.Values, s.Procs)
	if s.Values.Len() != len(is.values) || s.Procs.Len() != len(is.procs) {
		t.Errorf("P17.1: %d keys and %d procedures, not %d, %d", s.Values.Len(), s.Procs.Len(), len(is.values), len(is.procs))
	}
	for name, p := range is.procs {
		if p.Name != name {
			t.Errorf("P17.1: %q stands under %q", p.Name, name)
		}
	}
	if s.Has != (s.Manifest != api.Manifest{}) {
		t.Errorf("P17.1: Has %v, %v", s.Has, s.Manifest)
	}
}
