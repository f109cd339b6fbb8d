package seglog_test

import (
	"math"
	"slices"
	"testing"

	"treadle/api"
	"treadle/disk"
	"treadle/seglog"
)

// P13.3: a log that Start takes: what it tells, and that there was no stroke.
func TestStart(t *testing.T) {
	for _, x := range []struct {
		limit    int
		segments []api.Segment
		next     int
	}{
		{1, nil, 1}, {1, []api.Segment{}, 1}, {100, nil, 1}, {api.MaxRoom, nil, 1}, {1, nil, 2},
		{1, nil, api.MaxNumber}, {1, nil, api.MaxNumber + 1},
		{1, []api.Segment{{First: 1}}, 1}, {1, []api.Segment{{First: 1, Size: api.MaxRoom}}, 1}, {1, []api.Segment{{First: 7, Size: 5}}, 9},
		{1, []api.Segment{{First: 1}, {First: 2}, {First: 3}}, 3}, {5, []api.Segment{{First: 1, Size: 9}, {First: 8, Size: api.MaxRoom}, {First: 9}}, 9},
		{1, []api.Segment{{First: api.MaxNumber}}, api.MaxNumber}, {1, []api.Segment{{First: api.MaxNumber - 1}, {First: api.MaxNumber, Size: 3}}, api.MaxNumber + 1},
	} {
		d := wide(t)
		l := started(t, d, x.limit, x.segments, x.next)
		tells(t, l, x.next, x.next-1, false, x.segments...)
		if e := l.Flush(); e != api.OK {
			t.Errorf("P13.3: something waits: %v", e)
		}
		tells(t, l, x.next, x.next-1, false, x.segments...)
		sameDisk(t, "P13.3: Start has a stroke", d, wide(t))
	}
}

// startRefused asks Start of what it refuses.
func startRefused(t *testing.T, d *disk.Disk, limit int, segments []api.Segment, next int) {
	t.Helper()
	l, e := seglog.Start(d, limit, segments, next)
	if l != nil || e != api.ErrArg {
		t.Errorf("P13.3: Start(limit %d, %v, next %d): %v, %v", limit, segments, next, l, e)
	}
	if _, e := slowStart(d, limit, segments, next); e != api.ErrArg {
		t.Errorf("the words take limit %d, %v, next %d", limit, segments, next)
	}
	if d != nil {
		sameDisk(t, "P13.3: Start has a stroke", d, wide(t))
	}
}

// P13.3: each thing that is refused, each limit and one outside of it.
func TestStartRefused(t *testing.T) {
	d := wide(t)
	startRefused(t, nil, 1, nil, 1)
	startRefused(t, nil, 0, []api.Segment{{}}, 0)
	for _, limit := range []int{0, -1, api.MaxRoom + 1, math.MaxInt, math.MinInt} {
		startRefused(t, d, limit, nil, 1)
	}
	for _, next := range []int{0, -1, api.MaxNumber + 2, math.MaxInt, math.MinInt} {
		startRefused(t, d, 1, nil, next)
		startRefused(t, d, 1, []api.Segment{{First: 1}}, next)
		startRefused(t, d, 1, []api.Segment{{First: next}}, next)
	}
	good := []api.Segment{{First: 2, Size: 5}, {First: 4}, {First: 6, Size: api.MaxRoom}}
	started(t, d, 1, good, 6)
	for i := range good {
		for _, first := range []int{0, -1, math.MinInt, 7, 8, api.MaxNumber, api.MaxNumber + 1, math.MaxInt} {
			bad := slices.Clone(good)
			bad[i].First = first
			startRefused(t, d, 1, bad, 6)
		}
		for _, size := range []int{-1, math.MinInt, api.MaxRoom + 1, math.MaxInt} {
			bad := slices.Clone(good)
			bad[i].Size = size
			startRefused(t, d, 1, bad, 6)
		}
	}
	startRefused(t, d, 1, []api.Segment{{First: api.MaxNumber + 1}}, api.MaxNumber+1)
	startRefused(t, d, 1, []api.Segment{{First: 1}, {First: api.MaxNumber + 1}}, api.MaxNumber+1)
	for _, firsts := range [][]int{{2, 2}, {2, 1}, {1, 2, 2}, {1, 3, 2}, {1, 1, 2}, {3, 1, 2}, {1, 2, 3, 4, 4}} {
		var bad []api.Segment
		for _, first := range firsts {
			bad = append(bad, api.Segment{First: first})
		}
		startRefused(t, d, 1, bad, 6)
	}
}

// P13.3: all choices among a few, against the chapter's words.
func TestStartAgainstWords(t *testing.T) {
	few := []int{-1, 0, 1, 2, 3, api.MaxNumber, api.MaxNumber + 1, api.MaxNumber + 2}
	for _, a := range few {
		for _, b := range few {
			for _, next := range few {
				for _, size := range []int{-1, 0, api.MaxRoom, api.MaxRoom + 1} {
					segments := []api.Segment{{First: a, Size: size}, {First: b, Size: 7}}
					for n := range 3 {
						d := wide(t)
						l, e := seglog.Start(d, 50, segments[:n], next)
						_, want := slowStart(d, 50, segments[:n], next)
						if e != want || (l == nil) != (want != api.OK) {
							t.Errorf("P13.3: %v, next %d: %v, not %v", segments[:n], next, e, want)
						}
						if l != nil {
							tells(t, l, next, next-1, false, segments[:n]...)
						}
					}
				}
			}
		}
	}
}

// refused asks Append of what it refuses: nothing has changed, and nothing more waits.
func refused(t *testing.T, l *seglog.Log, txns []api.Txn, want api.Errno) {
	t.Helper()
	next, durable, broken, segments := l.Next(), l.Durable(), l.Broken(), l.Segments()
	if first, e := l.Append(txns); first != 0 || e != want {
		t.Errorf("P13.4, W3: Append of %d at %d: %d, %v, not %v", len(txns), next, first, e, want)
	}
	tells(t, l, next, durable, broken, segments...)
}

// P13.4: the numbers that are answered; nothing is written till a Flush.
func TestAppend(t *testing.T) {
	d := wide(t)
	l := started(t, d, 100, nil, 1)
	want := 1
	for n := 1; n <= 64; n++ {
		if first := taken(t, l, calls(n, n)...); first != want {
			t.Errorf("P13.4: %d, not %d", first, want)
		}
		want += n
		tells(t, l, want, 0, false)
	}
	taken(t, l, define(put2()), call("put2", text("a"), num(1)))
	sameDisk(t, "P13.4: Append has a stroke", d, wide(t))
	for _, next := range []int{2, 127, 128, 1 << 40} {
		l := started(t, wide(t), 100, nil, next)
		taken(t, l, calls(2, 1)...)
		tells(t, l, next+2, next-1, false)
	}
}

// P13.4: numbers about the greatest one, ahead of all that chapter 12 says.
func TestAppendAtTheEnd(t *testing.T) {
	bad := func(n int) []api.Txn { return make([]api.Txn, n) }
	for n := 1; n <= 64; n++ {
		l := started(t, wide(t), 100, nil, api.MaxNumber-n+1)
		refused(t, l, calls(min(n+1, 64)+n/64, 1), api.ErrNumber)
		refused(t, l, bad(n+1), api.ErrNumber)
		refused(t, l, bad(1000), api.ErrNumber)
		refused(t, l, bad(n), api.ErrArg)
		refused(t, l, nil, api.ErrArg)
		taken(t, l, calls(n, 1)...)
		refused(t, l, calls(1, 1), api.ErrNumber)
		refused(t, l, bad(1), api.ErrNumber)
		refused(t, l, nil, api.ErrArg)
		flushed(t, l)
		tells(t, l, api.MaxNumber+1, api.MaxNumber, false, l.Segments()...)
	}
	l := started(t, wide(t), 100, nil, api.MaxNumber)
	refused(t, l, calls(2, 1), api.ErrNumber)
	taken(t, l, call("p"))
	for _, segments := range [][]api.Segment{nil, {{First: api.MaxNumber, Size: 14}}} {
		l := started(t, wide(t), 100, segments, api.MaxNumber+1)
		tells(t, l, api.MaxNumber+1, api.MaxNumber, false, segments...)
		refused(t, l, calls(1, 1), api.ErrNumber)
		refused(t, l, calls(65, 1), api.ErrNumber)
		refused(t, l, []api.Txn{}, api.ErrArg)
		if e := l.Flush(); e != api.OK {
			t.Errorf("P13.5: nothing waits: %v", e)
		}
	}
	// A batch of 64 and one more, while the numbers last.
	l = started(t, wide(t), 100, nil, api.MaxNumber-64)
	refused(t, l, calls(65, 1), api.ErrArg)
	l = started(t, wide(t), 100, nil, api.MaxNumber-63)
	refused(t, l, calls(65, 1), api.ErrNumber)
}

// wrongBatches is what chapter 12 refuses, whatever number comes first.
func wrongBatches() []struct {
	txns []api.Txn
	want api.Errno
} {
	return []struct {
		txns []api.Txn
		want api.Errno
	}{
		{nil, api.ErrArg}, {[]api.Txn{}, api.ErrArg}, {calls(65, 1), api.ErrArg}, {make([]api.Txn, 1), api.ErrArg}, {make([]api.Txn, 66), api.ErrArg},
		{[]api.Txn{call("p"), {Kind: 3}}, api.ErrArg},
		{[]api.Txn{{Kind: api.TxnDefine, Proc: put2(), Name: "p"}}, api.ErrForm}, {[]api.Txn{{Kind: api.TxnCall, Proc: put2(), Name: "p"}}, api.ErrForm},
		{[]api.Txn{define(api.Proc{})}, api.ErrName}, {[]api.Txn{define(api.Proc{Name: "p", Args: 17})}, api.ErrArg},
		{[]api.Txn{define(api.Proc{Name: "p", Code: []api.Instr{{Op: 17}}})}, api.ErrOp},
		{[]api.Txn{define(api.Proc{Name: "p", Code: make([]api.Instr, 65)})}, api.ErrLong},
		{[]api.Txn{call("1p")}, api.ErrName}, {[]api.Txn{call("")}, api.ErrName}, {[]api.Txn{call("p"), call("p q"), {}}, api.ErrName},
		{[]api.Txn{call("p", make([]api.Value, 17)...)}, api.ErrLong}, {[]api.Txn{call("p", text(long(257)))}, api.ErrLong}, {[]api.Txn{call("p", api.Value{Kind: 3})}, api.ErrKind},
	}
}

// P13.4: what chapter 12 refuses; what waited waits as it was.
func TestAppendRefused(t *testing.T) {
	for _, next := range []int{1, 200, 1 << 40} {
		p := paired(t, 10000, 20, 1000, nil, nil, next)
		p.append(calls(2, 1)...)
		for _, x := range wrongBatches() {
			refused(t, p.l, x.txns, x.want)
			if e := p.append(x.txns...); e != x.want {
				t.Errorf("the words say %v, not %v", e, x.want)
			}
		}
		p.append(call("p"))
		p.flush()
		for _, x := range wrongBatches() {
			refused(t, p.l, x.txns, x.want)
		}
		p.flush()
		p.append(call("q"))
		p.flush()
	}
}

// P13.4: bytes of just as many as a frame takes, and of one more: by what they say, and by First alone.
func TestAppendLong(t *testing.T) {
	for n, want := range map[int]api.Errno{65535: api.OK, 65536: api.OK, 65537: api.ErrLong, 65538: api.ErrLong, 66000: api.ErrLong} {
		txns := sized(t, n)
		p := paired(t, api.MaxRoom, 20, 1000, nil, nil, 1)
		if e := p.append(txns...); e != want {
			t.Errorf("the words say %v of %d bytes", e, n)
		}
		if want == api.ErrLong {
			refused(t, p.l, txns, want)
		}
		p.flush()
		if want == api.OK {
			tells(t, p.l, 1+len(txns), len(txns), false, api.Segment{First: 1, Size: 8 + n})
			data, _ := p.d.Read("log-000000000001")
			goes(t, data, 1, step{from(1, txns...), 8 + n})
		}
	}
	txns := sized(t, 65536)
	taken(t, started(t, wide(t), 1, nil, 127), txns...)
	refused(t, started(t, wide(t), 1, nil, 128), txns, api.ErrLong)
	taken(t, started(t, wide(t), 1, nil, 128), sized(t, 65535)...)
}

// P13.4 to P13.6: a broken Log; ahead of all else.
func TestBrokenLog(t *testing.T) {
	for _, next := range []int{1, api.MaxNumber} {
		for _, x := range faults() {
			d := wide(t)
			l := started(t, d, 100, nil, next)
			taken(t, l, call("p"))
			d.Plan(failsAt(1, x.kind))
			if e := l.Flush(); e != x.e {
				t.Errorf("P13.5: %v, not %v", e, x.e)
			}
			tells(t, l, next+1, next-1, true)
			was := sightOf(d)
			for range 2 {
				refused(t, l, calls(1, 1), api.ErrBroken)
				refused(t, l, calls(65, 1), api.ErrBroken)
				refused(t, l, nil, api.ErrBroken)
				refused(t, l, []api.Txn{call("1p")}, api.ErrBroken)
				if e := l.Flush(); e != api.ErrBroken {
					t.Errorf("P13.5: %v", e)
				}
				for _, upto := range []int{math.MinInt, -1, 0, 1, math.MaxInt} {
					if e := l.Trim(upto); e != api.ErrBroken {
						t.Errorf("P13.6: Trim(%d): %v", upto, e)
					}
				}
				tells(t, l, next+1, next-1, true)
			}
			if now := sightOf(d); now.strokes != was.strokes || now.reads != 0 || now.names != was.names {
				t.Errorf("P13.5: a broken log has strokes: %s", inWords(now))
			}
			// The power is on again, and it stays broken.
			d.Crash(api.Picks{})
			refused(t, l, calls(1, 1), api.ErrBroken)
			if e := l.Flush(); e != api.ErrBroken || !l.Broken() || d.Strokes() != 0 {
				t.Errorf("P13.5: %v", e)
			}
		}
	}
}

// P13.7, W8: a zero Log, and none.
func TestZeroAndNone(t *testing.T) {
	var zero seglog.Log
	for _, x := range []struct {
		l      *seglog.Log
		broken bool
		want   api.Errno
	}{{&zero, true, api.ErrBroken}, {new(seglog.Log), true, api.ErrBroken}, {nil, false, api.ErrArg}} {
		for range 2 {
			tells(t, x.l, 0, 0, x.broken)
			for _, txns := range [][]api.Txn{nil, {}, calls(1, 1), calls(65, 1), {{}}} {
				refused(t, x.l, txns, x.want)
			}
			if e := x.l.Flush(); e != x.want {
				t.Errorf("W8: Flush: %v, not %v", e, x.want)
			}
			for _, upto := range []int{math.MinInt, -1, 0, 1, math.MaxInt} {
				if e := x.l.Trim(upto); e != x.want {
					t.Errorf("W8: Trim(%d): %v, not %v", upto, e, x.want)
				}
			}
		}
	}
}

// P13.3: a zero Disk is one, and takes nothing.
func TestZeroDisk(t *testing.T) {
	l := started(t, &disk.Disk{}, 100, nil, 1)
	taken(t, l, call("p"))
	if e := l.Flush(); e != api.ErrFiles {
		t.Errorf("P13.5: %v", e)
	}
	tells(t, l, 2, 0, true)
}
