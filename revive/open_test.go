package revive_test

import (
	"fmt"
	"slices"
	"testing"

	"treadle/api"
	"treadle/disk"
	"treadle/revive"
)

// The chapter's examples, row by row. What a state is, is held against the history; what was read, by how many readings there were.
func TestExamples(t *testing.T) {
	empty := dir{}.found(t, api.Opened{}, 0, 1, at(0))
	segments(t, empty)
	if empty.Has || empty.Next != 1 {
		t.Errorf("P17.1: %+v", empty)
	}
	two := dir{seg(1, 1, 1)}
	torn := two.more(logName(1), 1, 2, 3, 4, 5)
	segments(t, torn.found(t, api.Opened{Last: 2, Replayed: 2, Torn: 5}, 1, 3, at(2)), 1, size(1, 1, 1))
	dir{file(logName(2), torn.bytes(logName(1)))}.damaged(t, 0)
	segments(t, two.with(seg(3)).found(t, api.Opened{Last: 2, Replayed: 2}, 2, 2, at(2)), 1, size(1, 1, 1), 3, 0)
	torn.with(seg(3)).damaged(t, 1)

	marked := dir{man(of(1, 4, 2, 0, 0)), ck(4, 2)}
	three := marked.with(seg(1, 1, 1), seg(3, 1))
	s := three.found(t, api.Opened{Base: 2, Last: 3, Replayed: 1}, 3, 2, stamped(2, 4).from(3, 3))
	segments(t, s, 1, 0, 3, size(3, 1))
	if !s.Has || s.Manifest != of(1, 4, 2, 0, 0) {
		t.Errorf("P17.1: %v, %v", s.Has, s.Manifest)
	}
	segments(t, three.without(logName(3)).found(t, api.Opened{Base: 2, Last: 2}, 3, 2, stamped(2, 4)), 1, size(1, 1, 1))
	marked.with(seg(5, 1)).damaged(t, 2)
}

// The strokes of the examples, one by one: the power goes off at each in turn.
func TestStrokesInTheirOrder(t *testing.T) {
	name := logName(1)
	torn := dir{seg(1, 1, 1)}.more(name, 1, 2, 3, 4, 5)
	whole := size(1, 1, 1)
	// A Create of another file is pending, so that a SyncNames is seen.
	build := func() *disk.Disk {
		d := torn.disk(t)
		d.Create("x")
		d.Plan(api.Plan{})
		return d
	}
	looks := []struct{ pending, changes, bytes, safe int }{
		{1, 0, whole + 5, whole + 5}, // nothing is done yet
		{1, 1, whole, whole + 5},     // Truncate
		{1, 0, whole, whole},         // Sync
		{0, 0, whole, whole},         // SyncNames
	}
	for k, want := range looks {
		d := build()
		d.Plan(strokeFails(k+1, api.FaultOff))
		s, e := revive.Open(d, 1)
		names, changes := d.Pending()
		got := struct{ pending, changes, bytes, safe int }{names, changes[0], len(dir(d.Files()).bytes(name)), len(dir(d.Safe()).bytes(name))}
		if got != want || (e == api.OK) != (k == 3) || (s != nil) != (k == 3) || d.Strokes() != min(k+1, 3) {
			t.Errorf("P17.1: stroke %d off: %+v, not %+v; %v, %d strokes", k+1, got, want, e, d.Strokes())
		}
	}
}

// P17.1, W8: no disk; a zero one; one that is off.
func TestDisks(t *testing.T) {
	for _, workers := range anyWorkers() {
		if s, e := revive.Open(nil, workers); s != nil || e != api.ErrArg {
			t.Errorf("P17.1: no disk: %v, %v", s, e)
		}
	}
	zero := &disk.Disk{}
	if s, e := revive.Open(zero, 1); e != api.OK || s.Next != 1 || s.Has || len(s.Segments) != 0 || s.Opened != (api.Opened{}) || zero.Strokes() != 1 {
		t.Errorf("P17.1: a zero disk: %v, %v", s, e)
	}
	for _, x := range []dir{{}, {seg(1, 1)}, {man(of(1, 4, 2, 0, 0)), ck(4, 2)}, {file("manifest", nil)}} {
		_, e, d := agrees(t, "P17.1", func() *disk.Disk {
			d := x.disk(t)
			off(t, d)
			return d
		}, 1)
		if e != api.ErrOff || d.Reads() != 0 || d.Strokes() != 1 {
			t.Errorf("P17.1: off: %v, %d readings", e, d.Reads())
		}
	}
}

// P17.1, 2: the manifest: none, a whole one, cut off at each place, each byte of it turned, more behind it, one that may not be.
func TestManifest(t *testing.T) {
	whole := dir{man(of(7, 300, 2, 200, 1)), ck(300, 2), ck(200, 1), seg(1, 2), seg(3, 1)}
	s := whole.found(t, api.Opened{Base: 2, Last: 3, Replayed: 1}, 3, 2, stamped(2, 300).from(3, 3))
	if !s.Has || s.Manifest != of(7, 300, 2, 200, 1) {
		t.Errorf("P17.1: %v, %v", s.Has, s.Manifest)
	}
	s = whole.without("manifest").found(t, api.Opened{Last: 3, Replayed: 3}, 2, 2, at(3))
	if s.Has || s.Manifest != (api.Manifest{}) {
		t.Errorf("P17.1: without a manifest: %v, %v", s.Has, s.Manifest)
	}
	data := whole.bytes("manifest")
	for i := range data {
		whole.with(file("manifest", data[:i])).damaged(t, 1)
		whole.turned("manifest", i).damaged(t, 1)
	}
	whole.more("manifest", 0).damaged(t, 1)
	whole.more("manifest", data...).damaged(t, 1)
	// File 2, but Prev 2: bytes that sum up, and say what may not be.
	may := append([]byte{8}, "manifest"...)
	whole.with(ck(2, 2), file("manifest", sealed(append(may, 1, 2, 2, 1, 1)))).found(t, api.Opened{Base: 2, Last: 3, Replayed: 1}, 3, 2, stamped(2, 2).from(3, 3))
	whole.with(ck(2, 2), file("manifest", sealed(append(may, 1, 2, 2, 2, 1)))).damaged(t, 1)
	whole.with(ck(2, 2), file("manifest", sealed(append(may, 0, 2, 2, 1, 1)))).damaged(t, 1)
	whole.with(file("manifest", whole.bytes(ckptName(300)))).damaged(t, 1)
}

// P17.1: a directory without a segment: the last transaction is the base.
func TestNoSegment(t *testing.T) {
	for _, mark := range []int{0, 1, 2, 9} {
		x := dir{man(of(1, 4, mark, 0, 0)), ck(4, mark)}
		segments(t, x.found(t, api.Opened{Base: mark, Last: mark}, 2, 1, stamped(mark, 4)))
	}
	s := dir{man(of(1, most, most, 0, 0)), file(ckptName(most), image(most, most, at(9)))}.found(t, api.Opened{Base: most, Last: most}, 2, 1, at(9))
	if s != nil && s.Next != most+1 {
		t.Errorf("P17.1: next is %d", s.Next)
	}
}

// P17.1, 7: what is run, on however many workers: the same State, and the same strokes.
func TestWorkers(t *testing.T) {
	dirs := []dir{
		{seg(1, 2, 1, 30, 7)},
		{seg(1, 40), seg(41, 1, 1, 1, 8, 20)},
		{man(of(1, 4, 12, 0, 0)), ck(4, 12), seg(1, 12, 30, 1), seg(44, 17)},
		{man(of(1, 4, 12, 0, 0)), ck(4, 12), seg(3, 10, 64), seg(77, 5)},
	}
	for _, x := range dirs {
		for _, workers := range anyWorkers() {
			s, e, _ := agrees(t, fmt.Sprintf("P17.1: %d workers", workers), func() *disk.Disk { return x.disk(t) }, workers)
			if e != api.OK {
				t.Fatal(e)
			}
			want := at(s.Opened.Last)
			if s.Has {
				want = stamped(12, 4).from(13, s.Opened.Last)
			}
			if is := stateOf(s.Values, s.Procs); is.words() != want.words() {
				t.Errorf("P17.1: %d workers: %s, not %s", workers, is.words(), want.words())
			}
		}
	}
}

// P17.1, 7: one batch looks at what the one ahead of it, and the segment ahead of it, have written; a procedure is called behind its definition, and behind its second one.
func TestRunInOrder(t *testing.T) {
	fold := func(n int) api.Txn { return call("fold", text("key"), num(n)) }
	x := dir{file(logName(1), slices.Concat(rowOf(1, history(1)), rowOf(2, fold(5), fold(7)), rowOf(4, fold(11)))),
		file(logName(5), slices.Concat(rowOf(5, fold(20), define("proc fold 2", "arg r0 0", "set r1 1", "put r0 r1")), rowOf(7, fold(99)))),
		file(logName(8), rowOf(8, call("gone"), call("fold", text("key 2"), num(3)), call("fold")))}
	for _, workers := range anyWorkers() {
		s, e := revive.Open(x.disk(t), workers)
		if e != api.OK || s.Opened != (api.Opened{Last: 10, Replayed: 10}) {
			t.Fatalf("P17.1: %v, %v", s, e)
		}
		one, _ := s.Values.Get("key")
		two, _ := s.Values.Get("key 2")
		if one != num(1) || two != num(1) || s.Values.Len() != 2 || s.Procs.Len() != 1 {
			t.Errorf("P17.1: %v, %v", one, two)
		}
		s, e = revive.Open(x.without(logName(5), logName(8)).disk(t), workers)
		if v, _ := s.Values.Get("key"); e != api.OK || v != num(11-(7-5)) {
			t.Errorf("P17.1: %v, %v", v, e)
		}
	}
}

// P17.1: what a transaction gives up changes nothing, and counts all the same.
func TestGaveUp(t *testing.T) {
	x := dir{file(logName(1), slices.Concat(rowOf(1, call("nobody"), call("nobody")), rowOf(3, history(1), call("fold", text("a"))), rowOf(5, call("fold", text(""), num(1)))))}
	s := x.found(t, api.Opened{Last: 5, Replayed: 5}, 1, 2, at(1))
	if s.Values.Len() != 0 {
		t.Errorf("P17.1: %d keys", s.Values.Len())
	}
}

// P17.1: numbers up to the greatest one there is.
func TestGreatestNumbers(t *testing.T) {
	begin := at(9)
	x := dir{man(of(most, most, most-3, most-1, most-4)), file(ckptName(most), image(most, most-3, begin))}
	end := func(n int) state { return at(9).from(most-2, n) }
	s := x.with(seg(most-2, 3)).found(t, api.Opened{Base: most - 3, Last: most, Replayed: 3}, 3, 2, end(most))
	if s.Next != most+1 {
		t.Errorf("P17.1: next is %d", s.Next)
	}
	segments(t, x.with(seg(most-2, 1, 1), seg(most)).found(t, api.Opened{Base: most - 3, Last: most - 1, Replayed: 2}, 4, 2, end(most-1)), most-2, size(most-2, 1, 1), most, 0)
	x.with(seg(most-2, 1, 1), seg(most, 1)).found(t, api.Opened{Base: most - 3, Last: most, Replayed: 3}, 4, 2, end(most))
	x.with(seg(most-2, 1), seg(most, 1)).damaged(t, 4)
	x.with(seg(most, 1)).damaged(t, 2)
	x.with(file(ckptName(most-1), image(most-1, most-4, begin)), file(ckptName(most), nil), seg(most-3, 4)).found(t, api.Opened{Base: most - 4, Last: most, Replayed: 4}, 4, 2, at(9).from(most-3, most))

	all := dir{man(of(1, 4, most, 0, 0)), file(ckptName(4), image(4, most, begin))}
	all.with(seg(most, 1)).found(t, api.Opened{Base: most, Last: most}, 3, 2, begin)
	all.with(seg(most)).damaged(t, 3)
	all.with(seg(most-1, 1, 1)).found(t, api.Opened{Base: most, Last: most}, 3, 2, begin)
	all.with(seg(1, 1)).damaged(t, 3)
}

// P17.1: as many segments as a disk has files, and transactions as many as a batch has.
func TestMany(t *testing.T) {
	var x dir
	var want []int
	for i := range api.MaxFiles {
		x = append(x, seg(i+1, 1))
		want = append(want, i+1, size(i+1, 1))
	}
	segments(t, x.found(t, api.Opened{Last: 512, Replayed: 512}, 512, 2, at(512)), want...)
	x.without(logName(300)).damaged(t, 300)
	dir{seg(1, 64, 64, 64), seg(193, 64)}.found(t, api.Opened{Last: 256, Replayed: 256}, 2, 2, at(256))
}
