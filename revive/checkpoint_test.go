package revive_test

import (
	"slices"
	"testing"

	"treadle/api"
)

// bad is a checkpoint's file that does not fit, in words, and whether it is there to be read.
type bad struct {
	what string
	make func(x dir, number, mark int) dir
	read int
}

// bads is the ways in which the checkpoint of a number and a mark does not fit; it is whole in x.
func bads() []bad {
	lay := func(data func(b []byte, number, mark int) []byte) func(x dir, number, mark int) dir {
		return func(x dir, number, mark int) dir {
			name := ckptName(number)
			return x.with(file(name, data(x.bytes(name), number, mark)))
		}
	}
	return []bad{
		{"not there", func(x dir, number, mark int) dir { return x.without(ckptName(number)) }, 0},
		{"without a byte", lay(func(b []byte, _, _ int) []byte { return nil }), 1},
		{"cut off", lay(func(b []byte, _, _ int) []byte { return b[:len(b)-1] }), 1},
		{"cut off at the half", lay(func(b []byte, _, _ int) []byte { return b[:len(b)/2] }), 1},
		{"more", lay(func(b []byte, _, _ int) []byte { return append(b, 0) }), 1},
		{"a byte turned", lay(func(b []byte, _, _ int) []byte { b[len(b)/2] ^= 4; return b }), 1},
		{"another number", lay(func(b []byte, number, mark int) []byte { return image(number+1, mark, stamped(mark, number)) }), 1},
		{"the number 1", lay(func(b []byte, number, mark int) []byte { return image(1, mark, stamped(mark, number)) }), 1},
		{"a mark above", lay(func(b []byte, number, mark int) []byte { return image(number, mark+1, stamped(mark, number)) }), 1},
		{"a mark below", lay(func(b []byte, number, mark int) []byte { return image(number, mark-1, stamped(mark, number)) }), 1},
		{"a segment", lay(func(b []byte, number, mark int) []byte { return rows(mark+1, history, 2) }), 1},
	}
}

// two is a directory with two checkpoints, and a log that reaches both.
func two() dir {
	return dir{man(of(3, 9, 6, 5, 3)), ck(9, 6), ck(5, 3), seg(1, 1, 1), seg(3, 1), seg(4, 1, 1, 1), seg(7, 1, 1)}
}

// P17.1, 3: the one that File names is whole: the other one is not looked at, whatever it is.
func TestFits(t *testing.T) {
	want := api.Opened{Base: 6, Last: 8, Replayed: 2}
	end := func() state { return stamped(6, 9).from(7, 8) }
	two().found(t, want, 3, 2, end())
	for _, b := range bads() {
		b.make(two(), 5, 3).found(t, want, 3, 2, end())
	}
}

// P17.1, 3: it does not fit, in each way: the one ahead of it does.
func TestAhead(t *testing.T) {
	for _, b := range bads() {
		x := b.make(two(), 9, 6)
		s := x.found(t, api.Opened{Base: 3, Last: 8, Replayed: 5}, 4+b.read, 2, stamped(3, 5).from(4, 8))
		if s == nil || !s.Has || s.Manifest != of(3, 9, 6, 5, 3) {
			t.Fatalf("P17.1: %s: the manifest is %v", b.what, s)
		}
		segments(t, s, 1, 0, 3, 0, 4, size(4, 1, 1, 1), 7, size(7, 1, 1))
	}
}

// P17.1, 3: neither fits, in each two ways.
func TestNoneFits(t *testing.T) {
	for _, a := range bads() {
		for _, b := range bads() {
			b.make(a.make(two(), 9, 6), 5, 3).damaged(t, 1+a.read+b.read)
		}
	}
}

// P17.1, 3: there is none ahead of it (Prev is 0): ErrDamage, though files of other numbers are there.
func TestNoneAhead(t *testing.T) {
	for _, b := range bads() {
		x := b.make(two(), 9, 6).with(man(of(3, 9, 6, 0, 0)))
		x.damaged(t, 1+b.read)
		x.with(file("ckpt-000000000000", image(1, 0, at(0))), ck(1, 0)).damaged(t, 1+b.read)
	}
}

// P17.1, 3: the log reaches the one ahead just if a segment's number is at most PrevMark + 1; if not, that one is not read.
func TestReaches(t *testing.T) {
	marked := dir{man(of(3, 9, 6, 5, 3)), file(ckptName(9), nil), ck(5, 3)}
	marked.damaged(t, 2) // no segment at all
	end := func() state { return stamped(3, 5).from(4, 8) }
	want := api.Opened{Base: 3, Last: 8, Replayed: 5}
	marked.with(seg(4, 5)).found(t, want, 4, 2, end())
	marked.with(seg(3, 1, 5)).found(t, want, 4, 2, end())
	marked.with(seg(1, 2, 1, 5)).found(t, want, 4, 2, end())
	marked.with(seg(5, 4)).damaged(t, 2)
	marked.with(seg(5, 4), seg(9, 1)).damaged(t, 2)
	marked.with(seg(7, 2)).damaged(t, 2)
	// One that reaches it in name alone is enough for it to be read, and to fit.
	marked.with(seg(1), seg(5, 4)).damaged(t, 5)
	marked.with(seg(1), seg(4, 5)).found(t, want, 4, 2, end())
	marked.with(file("log-00000000000", nil), file("log-000000000000", nil), file("Log-000000000001", nil), seg(5, 4)).damaged(t, 2)
	// The mark 0: only a segment of the number 1 reaches it.
	zero := dir{man(of(3, 9, 6, 5, 0)), ck(5, 0)}
	zero.with(seg(1, 6)).found(t, api.Opened{Base: 0, Last: 6, Replayed: 6}, 3, 2, stamped(0, 5).from(1, 6))
	zero.with(seg(2, 6)).damaged(t, 1)
	zero.damaged(t, 1)
}

// P17.1, 3: the one that File names need not be reached: without a segment, and with needed ones that come behind it, it counts.
func TestNotReached(t *testing.T) {
	marked := dir{man(of(3, 9, 6, 5, 3)), ck(9, 6), ck(5, 3)}
	marked.found(t, api.Opened{Base: 6, Last: 6}, 2, 1, stamped(6, 9))
	marked.with(seg(7, 2)).found(t, api.Opened{Base: 6, Last: 8, Replayed: 2}, 3, 2, stamped(6, 9).from(7, 8))
	marked.with(seg(8, 2)).damaged(t, 2)
}

// P17.1, 3: the state begins as the checkpoint says: all forms of procedures and values, and a checkpoint of nothing.
func TestBegins(t *testing.T) {
	s := newState()
	for i, v := range []api.Value{num(0), num(-1), {Kind: api.KindInt, Int: -1 << 63}, {Kind: api.KindInt, Int: 1<<63 - 1}, text(""), text("\x00\xff"), text(string(slices.Repeat([]byte("x"), api.MaxText)))} {
		s.values[string([]byte{byte(i)})] = v
		s.values[string(slices.Repeat([]byte{byte(i), 0xff}, api.MaxKey/2))] = v
	}
	s.procs["p"] = api.Proc{Name: "p", Args: 16}
	s.procs["q"] = api.Proc{Name: "q", Code: slices.Repeat([]api.Instr{{Op: api.OpSet, A: 15, Value: text("\x00 \xff")}}, api.MaxCode)}
	got := dir{man(of(1, 2, 7, 0, 0)), file(ckptName(2), image(2, 7, s))}.found(t, api.Opened{Base: 7, Last: 7}, 2, 1, s)
	for key, v := range s.values {
		if x, is := got.Values.Slot(key); !is || !x.Has[x.Read] || x.Copies[x.Read] != v {
			t.Errorf("P17.1: %q has %v, not %v", key, x, v)
		}
	}
	nothing := dir{man(of(1, 2, 7, 0, 0)), file(ckptName(2), image(2, 7, newState()))}
	nothing.found(t, api.Opened{Base: 7, Last: 7}, 2, 1, newState())
	nothing.with(seg(8, 1)).found(t, api.Opened{Base: 7, Last: 8, Replayed: 1}, 3, 2, newState().from(8, 8))
	// With a manifest whose mark is 0 nothing is below the base.
	dir{man(of(1, 2, 0, 0, 0)), ck(2, 0), seg(1, 3)}.found(t, api.Opened{Last: 3, Replayed: 3}, 3, 2, stamped(0, 2).from(1, 3))
}
