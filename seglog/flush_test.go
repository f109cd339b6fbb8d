package seglog_test

import (
	"bytes"
	"slices"
	"testing"

	"treadle/api"
	"treadle/disk"
	"treadle/seglog"
)

// plain is n calls without arguments: as a frame, with a number below 128, 10 bytes and 4 for each.
func plain(n int) []api.Txn { return slices.Repeat([]api.Txn{call("p")}, n) }

// scene is a log that a Flush is asked of: the segments that Start was told of, each with so many batches of one call, and batches of so many calls that wait.
type scene struct {
	limit int
	there []int // how many batches each segment has
	waits []int
}

// files is the files of the segments, the segments, and the number of the next transaction.
func (s scene) files() (files []api.FileBytes, segments []api.Segment, next int) {
	next = 1
	for _, n := range s.there {
		data := segmentOf(next, slices.Repeat([][]api.Txn{plain(1)}, n)...)
		files = append(files, api.FileBytes{Name: slowName(next), Data: data})
		segments = append(segments, api.Segment{First: next, Size: len(data)})
		next += n
	}
	return files, segments, next
}

// pair is the scene for a Log and for the chapter's words.
func (s scene) pair(t testing.TB) *pair {
	t.Helper()
	files, segments, next := s.files()
	p := paired(t, 100000, 100, s.limit, files, segments, next)
	for _, n := range s.waits {
		p.append(plain(n)...)
	}
	return p
}

// build is the scene for a Log alone.
func (s scene) build(t testing.TB) (*disk.Disk, *seglog.Log) {
	t.Helper()
	files, segments, next := s.files()
	d := newDisk(t, 100000, 100)
	for _, f := range files {
		if e := d.Hand(f.Name, f.Data); e != api.OK {
			t.Fatal(e)
		}
	}
	l := started(t, d, s.limit, segments, next)
	for _, n := range s.waits {
		taken(t, l, plain(n)...)
	}
	return d, l
}

// known is a scene with its strokes and the segments behind them.
type known struct {
	scene
	strokes  []string
	segments []api.Segment
}

func knownScenes() []known {
	return []known{
		{scene{100, nil, nil}, nil, nil},
		{scene{100, []int{1}, nil}, nil, []api.Segment{{First: 1, Size: 14}}},
		{scene{100, nil, []int{2, 1}}, []string{"create 1", "append 1 32", "sync 1", "names"}, []api.Segment{{First: 1, Size: 32}}},
		{scene{32, nil, []int{2, 1}}, []string{"create 1", "append 1 32", "sync 1", "names"}, []api.Segment{{First: 1, Size: 32}}},
		{scene{31, nil, []int{2, 1}}, []string{"create 1", "append 1 18", "sync 1", "create 3", "append 3 14", "sync 3", "names"}, []api.Segment{{First: 1, Size: 18}, {First: 3, Size: 14}}},
		{scene{1, nil, []int{2, 1}}, []string{"create 1", "append 1 18", "sync 1", "create 3", "append 3 14", "sync 3", "names"}, []api.Segment{{First: 1, Size: 18}, {First: 3, Size: 14}}},
		{scene{1, nil, []int{1}}, []string{"create 1", "append 1 14", "sync 1", "names"}, []api.Segment{{First: 1, Size: 14}}},
		// A segment with bytes: what just fits, and what does not.
		{scene{28, []int{1}, []int{1}}, []string{"append 1 14", "sync 1"}, []api.Segment{{First: 1, Size: 28}}},
		{scene{27, []int{1}, []int{1}}, []string{"create 2", "append 2 14", "sync 2", "names"}, []api.Segment{{First: 1, Size: 14}, {First: 2, Size: 14}}},
		{scene{1, []int{1}, []int{1}}, []string{"create 2", "append 2 14", "sync 2", "names"}, []api.Segment{{First: 1, Size: 14}, {First: 2, Size: 14}}},
		{scene{30, []int{1}, []int{1, 1}}, []string{"append 1 14", "sync 1", "create 3", "append 3 14", "sync 3", "names"}, []api.Segment{{First: 1, Size: 28}, {First: 3, Size: 14}}},
		{scene{42, []int{1}, []int{1, 1}}, []string{"append 1 28", "sync 1"}, []api.Segment{{First: 1, Size: 42}}},
		{scene{27, []int{2}, []int{1}}, []string{"create 3", "append 3 14", "sync 3", "names"}, []api.Segment{{First: 1, Size: 28}, {First: 3, Size: 14}}},
		// A segment without bytes takes what comes, however long.
		{scene{1, []int{0}, []int{1}}, []string{"append 1 14", "sync 1"}, []api.Segment{{First: 1, Size: 14}}},
		{scene{1, []int{0}, []int{1, 1}}, []string{"append 1 14", "sync 1", "create 2", "append 2 14", "sync 2", "names"}, []api.Segment{{First: 1, Size: 14}, {First: 2, Size: 14}}},
		{scene{1, []int{1, 0}, []int{1, 1}}, []string{"append 2 14", "sync 2", "create 3", "append 3 14", "sync 3", "names"}, []api.Segment{{First: 1, Size: 14}, {First: 2, Size: 14}, {First: 3, Size: 14}}},
		{scene{100, []int{2, 1, 0}, []int{3}}, []string{"append 4 22", "sync 4"}, []api.Segment{{First: 1, Size: 28}, {First: 3, Size: 14}, {First: 4, Size: 22}}},
		// Only the last one is appended to.
		{scene{100, []int{1, 2}, []int{1}}, []string{"append 2 14", "sync 2"}, []api.Segment{{First: 1, Size: 14}, {First: 2, Size: 42}}},
		// Several in one Flush.
		{scene{40, nil, []int{1, 1, 1, 1, 1}}, []string{"create 1", "append 1 28", "sync 1", "create 3", "append 3 28", "sync 3", "create 5", "append 5 14", "sync 5", "names"},
			[]api.Segment{{First: 1, Size: 28}, {First: 3, Size: 28}, {First: 5, Size: 14}}},
		{scene{30, nil, []int{1, 10, 1, 1}}, []string{"create 1", "append 1 14", "sync 1", "create 2", "append 2 50", "sync 2", "create c", "append c 28", "sync c", "names"},
			[]api.Segment{{First: 1, Size: 14}, {First: 2, Size: 50}, {First: 12, Size: 28}}},
		{scene{60, []int{1}, []int{10, 1, 2, 1}}, []string{"create 2", "append 2 50", "sync 2", "create c", "append c 46", "sync c", "names"},
			[]api.Segment{{First: 1, Size: 14}, {First: 2, Size: 50}, {First: 12, Size: 46}}},
	}
}

// P13.5: the strokes one by one, and what they leave; a second Flush has none.
func TestFlushStrokes(t *testing.T) {
	for _, x := range knownScenes() {
		deeds(t, strokesOf(t, func() (*disk.Disk, *seglog.Log) { return x.build(t) }, (*seglog.Log).Flush), x.strokes...)
		d, l := x.build(t)
		next := l.Next()
		flushed(t, l)
		tells(t, l, next, next-1, false, x.segments...)
		if d.Strokes() != len(x.strokes) || d.Reads() != 0 {
			t.Errorf("P13.5: %d strokes and %d readings, not %d", d.Strokes(), d.Reads(), len(x.strokes))
		}
		flushed(t, l)
		if d.Strokes() != len(x.strokes) {
			t.Errorf("P13.5: nothing waits, and there are strokes")
		}
	}
}

// P13.5, P13.7: each stroke of a Flush fails in turn, and the power goes off at it: the error, what the log tells, what the disk has.
func TestFlushFails(t *testing.T) {
	for _, x := range knownScenes() {
		for k := 1; k <= len(x.strokes)+1; k++ {
			for _, f := range faults() {
				p := x.pair(t)
				durable := p.l.Durable()
				p.plan(failsAt(k, f.kind))
				want := f.e
				if k > len(x.strokes) {
					want, durable = api.OK, p.l.Next()-1
				}
				if e := p.flush(); e != want {
					t.Errorf("P13.5: %v at stroke %d of %v, not %v", e, k, x.scene, want)
				}
				if p.l.Durable() != durable || p.l.Broken() != (want != api.OK) {
					t.Errorf("P13.5: durable %d, broken %v at stroke %d of %v", p.l.Durable(), p.l.Broken(), k, x.scene)
				}
				p.flush()
				p.append(plain(1)...)
				p.trim(1000)
				p.flush()
			}
		}
	}
}

// P13.7: the segments behind a Flush that failed, written out.
func TestSegmentsOfFailed(t *testing.T) {
	a, b, c := api.Segment{First: 1, Size: 28}, api.Segment{First: 3, Size: 28}, api.Segment{First: 5, Size: 14}
	whole := scene{40, nil, []int{1, 1, 1, 1, 1}} // create 1, append, sync, create 3, append, sync, create 5, append, sync, names
	for k, want := range map[int][]api.Segment{1: nil, 2: {a}, 3: {a}, 4: {a}, 5: {a, b}, 6: {a, b}, 7: {a, b}, 8: {a, b, c}, 9: {a, b, c}, 10: {a, b, c}} {
		d, l := whole.build(t)
		d.Plan(failsAt(k, api.FaultIO))
		if e := l.Flush(); e != api.ErrIO {
			t.Errorf("P13.5: %v", e)
		}
		tells(t, l, 6, 0, true, want...)
		if d.Strokes() != k {
			t.Errorf("P13.5: it goes on behind the stroke %d that failed: %d", k, d.Strokes())
		}
	}
	on := scene{30, []int{1}, []int{1, 1}} // append 1, sync, create 3, append, sync, names
	for k, want := range map[int][]api.Segment{1: {{First: 1, Size: 28}}, 3: {{First: 1, Size: 28}}, 4: {{First: 1, Size: 28}, {First: 3, Size: 14}}, 6: {{First: 1, Size: 28}, {First: 3, Size: 14}}} {
		d, l := on.build(t)
		d.Plan(failsAt(k, api.FaultOff))
		if e := l.Flush(); e != api.ErrOff || !d.Off() {
			t.Errorf("P13.5: %v", e)
		}
		tells(t, l, 4, 1, true, want...)
	}
	// Nothing is gathered for the last one: it stays as it was.
	d, l := scene{1, []int{1}, []int{1}}.build(t)
	d.Plan(failsAt(1, api.FaultFull))
	if e := l.Flush(); e != api.ErrFull {
		t.Errorf("P13.5: %v", e)
	}
	tells(t, l, 3, 1, true, api.Segment{First: 1, Size: 14})
}

// P13.5: what the disk itself refuses.
func TestFlushRefusedByDisk(t *testing.T) {
	one := api.Segment{First: 1, Size: 14}
	for _, x := range []struct {
		why         string
		room, files int
		there       []api.FileBytes
		segments    []api.Segment
		next        int
		want        api.Errno
		strokes     int
		left        []api.Segment
	}{
		{"no room", 13, 5, nil, nil, 1, api.ErrFull, 2, []api.Segment{one}},
		{"no room for the second", 27, 5, nil, nil, 1, api.ErrFull, 5, []api.Segment{one, {First: 2, Size: 14}}},
		{"no file", 100, 0, nil, nil, 1, api.ErrFiles, 1, nil},
		{"no second file", 100, 1, nil, nil, 1, api.ErrFiles, 4, []api.Segment{one}},
		{"a file of that name", 100, 5, []api.FileBytes{{Name: "log-000000000001"}}, nil, 1, api.ErrExists, 0, nil},
		{"a second one of that name", 100, 5, []api.FileBytes{{Name: "log-000000000002"}}, nil, 1, api.ErrExists, 3, []api.Segment{one}},
		{"no file of the last segment", 100, 5, nil, []api.Segment{{First: 1}}, 1, api.ErrNone, 0, []api.Segment{one}},
		{"no file of a segment with bytes", 100, 5, nil, []api.Segment{{First: 1, Size: 0}, {First: 4, Size: 0}}, 9, api.ErrNone, 0, []api.Segment{{First: 1}, {First: 4, Size: 14}}},
	} {
		p := paired(t, x.room, x.files, 1, x.there, x.segments, x.next)
		p.append(plain(1)...)
		p.append(plain(1)...)
		if e := p.flush(); e != x.want || p.d.Strokes() != x.strokes {
			t.Errorf("P13.5: %s: %v, not %v; %d strokes, not %d", x.why, e, x.want, p.d.Strokes(), x.strokes)
		}
		tells(t, p.l, x.next+2, x.next-1, true, x.left...)
	}
	// The power is off already; then nothing is a stroke.
	p := scene{100, nil, []int{1}}.pair(t)
	p.plan(failsAt(1, api.FaultOff))
	p.d.SyncNames()
	p.m.d.SyncNames()
	if e := p.flush(); e != api.ErrOff || p.d.Strokes() != 1 {
		t.Errorf("P13.5: %v, %d strokes", e, p.d.Strokes())
	}
	tells(t, p.l, 2, 0, true)
}

// P13.5: Flush upon Flush; the limit holds for all that a segment has, from whichever Flush.
func TestFlushUponFlush(t *testing.T) {
	for _, limit := range []int{1, 13, 14, 27, 28, 29, 41, 42, 43, 60, 100, 1000, api.MaxRoom} {
		p := paired(t, 100000, 100, limit, nil, nil, 1)
		for i, n := range []int{1, 2, 1, 1, 5, 1, 30, 1, 1, 2} {
			p.append(plain(n)...)
			if i%3 > 0 {
				p.append(plain(1)...)
			}
			p.flush()
			p.flush()
		}
		p.trim(20)
		p.append(plain(1)...)
		p.flush()
	}
}

// P13.5: what stands in a file: the frames, one behind the other, of batches as chapter 12 says them.
func TestFlushBytes(t *testing.T) {
	d, l := scene{60, nil, []int{2, 1, 3}}.build(t)
	flushed(t, l)
	want := slices.Concat(framed(bodyOf(from(1, plain(2)...))), framed(bodyOf(from(3, plain(1)...))), framed(bodyOf(from(4, plain(3)...))))
	data, _ := d.Read("log-000000000001")
	if len(want) != 54 || !bytes.Equal(data, want) {
		t.Errorf("P13.5: the file is %x, not %x", data, want)
	}
	taken(t, l, call("later", text("a"), nothing, num(-7)))
	flushed(t, l)
	data, _ = d.Read("log-000000000007")
	if want := framed(bodyOf(from(7, call("later", text("a"), nothing, num(-7))))); !bytes.Equal(data, want) {
		t.Errorf("P13.5: the file is %x, not %x", data, want)
	}
}

// P13.5: the chapter's examples.
func TestFlushExamples(t *testing.T) {
	two, one := calls(2, 1), calls(1, 2)
	for limit, want := range map[int][]string{
		100: {"create 1", "append 1 44", "sync 1", "names"},
		1:   {"create 1", "append 1 26", "sync 1", "create 3", "append 3 18", "sync 3", "names"},
	} {
		build := func() (*disk.Disk, *seglog.Log) {
			d := newDisk(t, 10000, 20)
			l := started(t, d, limit, nil, 1)
			if e := l.Flush(); e != api.OK || d.Strokes() != 0 {
				t.Errorf("P13.5: nothing waits: %v, %d strokes", e, d.Strokes())
			}
			if a, b := taken(t, l, two...), taken(t, l, one...); a != 1 || b != 3 {
				t.Errorf("P13.4: %d and %d", a, b)
			}
			tells(t, l, 4, 0, false)
			return d, l
		}
		got := strokesOf(t, build, (*seglog.Log).Flush)
		deeds(t, got, want...)
	}
	d := newDisk(t, 10000, 20)
	l := started(t, d, 100, nil, 1)
	taken(t, l, two...)
	d.Plan(failsAt(3, api.FaultIO))
	if e := l.Flush(); e != api.ErrIO || l.Durable() != 0 {
		t.Errorf("P13.5: %v, durable %d", e, l.Durable())
	}
	refused(t, l, one, api.ErrBroken)
}

// P13.5: very many batches that wait, and all the room of a disk.
func TestFlushMany(t *testing.T) {
	d := wide(t)
	l := started(t, d, api.MaxRoom, nil, 1)
	size, n := 0, 0
	for {
		more := 14
		switch next := l.Next(); {
		case next > 2097151:
			more = 17
		case next > 16383:
			more = 16
		case next > 127:
			more = 15
		}
		if size+more > api.MaxRoom {
			break
		}
		taken(t, l, call("p"))
		size += more
		n++
	}
	flushed(t, l)
	tells(t, l, n+1, n, false, api.Segment{First: 1, Size: size})
	if d.Strokes() != 4 {
		t.Errorf("P13.5: %d strokes", d.Strokes())
	}
	data, _ := d.Read("log-000000000001")
	next := 1
	for b, at := range seglog.Scan(data, 1) {
		if b.First != next || at > len(data) {
			t.Fatalf("P13.8: %d at %d, not %d", b.First, at, next)
		}
		next++
	}
	if next != n+1 || n < 250000 {
		t.Errorf("P13.8: %d transactions, not %d", next-1, n)
	}
	taken(t, l, call("p"))
	if e := l.Flush(); e != api.ErrFull || l.Durable() != n {
		t.Errorf("P13.5: %v, durable %d", e, l.Durable())
	}
	tells(t, l, n+2, n, true, api.Segment{First: 1, Size: size}, api.Segment{First: n + 1, Size: 16})
	// As many segments as there can be files.
	d = wide(t)
	l = started(t, d, 1, nil, 1)
	for range api.MaxFiles + 1 {
		taken(t, l, call("p"))
	}
	if e := l.Flush(); e != api.ErrFiles || len(l.Segments()) != api.MaxFiles || d.Strokes() != 3*api.MaxFiles+1 {
		t.Errorf("P13.5: %v, %d segments, %d strokes", e, len(l.Segments()), d.Strokes())
	}
}
