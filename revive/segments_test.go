package revive_test

import (
	"slices"
	"testing"

	"treadle/api"
)

// marked is a checkpoint of a mark and its manifest, without a log.
func marked(mark int) dir { return dir{man(of(1, 4, mark, 0, 0)), ck(4, mark)} }

// P17.1, 4: the needed ones: without a manifest from the number 1 on, with one from the greatest number on that is at most base + 1.
func TestNeeded(t *testing.T) {
	dir{seg(1, 1)}.found(t, api.Opened{Last: 1, Replayed: 1}, 1, 2, at(1))
	dir{seg(2, 1)}.damaged(t, 0)
	dir{seg(2, 1), seg(3, 1)}.damaged(t, 0)
	dir{seg(most, 1)}.damaged(t, 0)

	base := 5
	x, s := marked(base), func(last int) state { return stamped(base, 4).from(base+1, last) }
	x.with(seg(base+1, 2)).found(t, api.Opened{Base: base, Last: 7, Replayed: 2}, 3, 2, s(7))
	x.with(seg(base, 1, 2)).found(t, api.Opened{Base: base, Last: 7, Replayed: 2}, 3, 2, s(7))
	x.with(seg(base-1, 2, 2)).found(t, api.Opened{Base: base, Last: 7, Replayed: 2}, 3, 2, s(7))
	x.with(seg(base+2, 2)).damaged(t, 2)
	x.with(seg(base+2, 2), seg(base+4, 1)).damaged(t, 2)
	// base and base + 1, base + 1 and base + 2, all three.
	segments(t, x.with(seg(base, 1), seg(base+1, 1)).found(t, api.Opened{Base: base, Last: 6, Replayed: 1}, 3, 2, s(6)), base, 0, base+1, size(base+1, 1))
	segments(t, x.with(seg(base+1, 1), seg(base+2, 1)).found(t, api.Opened{Base: base, Last: 7, Replayed: 2}, 4, 2, s(7)), base+1, size(base+1, 1), base+2, size(base+2, 1))
	segments(t, x.with(seg(base, 1), seg(base+1, 1), seg(base+2, 1)).found(t, api.Opened{Base: base, Last: 7, Replayed: 2}, 4, 2, s(7)), base, 0, base+1, size(base+1, 1), base+2, size(base+2, 1))
	segments(t, x.with(seg(base, 1, 1), seg(base+2, 1)).found(t, api.Opened{Base: base, Last: 7, Replayed: 2}, 4, 2, s(7)), base, size(base, 1, 1), base+2, size(base+2, 1))
}

// P17.1, 4: rising by their numbers, in whatever order the files were made.
func TestRising(t *testing.T) {
	all := []api.FileBytes{seg(1, 1), seg(2, 8), seg(10, 7), seg(17, 64, 64, 64), seg(209, 48), seg(257, 1), seg(258, 1)}
	want := []int{1, size(1, 1), 2, size(2, 8), 10, size(10, 7), 17, size(17, 64, 64, 64), 209, size(209, 48), 257, size(257, 1), 258, size(258, 1)}
	for i := range 20 {
		x := slices.Clone(all)
		for k := range x {
			j := (k*7 + i*i + 3*i) % len(x)
			x[k], x[j] = x[j], x[k]
		}
		segments(t, dir(x).found(t, api.Opened{Last: 258, Replayed: 258}, 7, 2, at(258)), want...)
	}
}

// P17.1, 4: segments that are not needed are told with the Size 0, and whatever they hold is of no account.
func TestNotNeeded(t *testing.T) {
	want := api.Opened{Base: 5, Last: 8, Replayed: 3}
	s := func() state { return stamped(5, 4).from(6, 8) }
	x := marked(5).with(seg(1, 1, 1), seg(3, 2), seg(5, 1, 2), seg(8, 1))
	sizes := []int{1, 0, 3, 0, 5, size(5, 1, 2), 8, size(8, 1)}
	segments(t, x.found(t, want, 4, 2, s()), sizes...)
	for _, data := range [][]byte{nil, {1, 2, 3}, rows(1, others, 1, 1), rows(1, others, 9), rows(3, history, 1, 1, 1, 1), rows(2, history, 1)} {
		segments(t, x.with(file(logName(1), data)).found(t, want, 4, 2, s()), sizes...)
		segments(t, x.with(file(logName(3), data)).found(t, want, 4, 2, s()), sizes...)
	}
	for i := range x.bytes(logName(3)) {
		x.turned(logName(3), i).found(t, want, 4, 2, s())
		x.cut(logName(1), min(i, size(1, 1, 1))).found(t, want, 4, 2, s())
	}
	x.without(logName(1)).found(t, want, 4, 2, s())
	x.without(logName(3)).found(t, want, 4, 2, s())
	x.without(logName(1), logName(3)).found(t, want, 4, 2, s())
}

// P17.1, 5: a gap between two needed ones, or one that goes back; the one behind it is read ahead of that.
func TestGap(t *testing.T) {
	dir{seg(1, 2), seg(3, 1)}.found(t, api.Opened{Last: 3, Replayed: 3}, 2, 2, at(3))
	dir{seg(1, 2), seg(4, 1)}.damaged(t, 2)
	dir{seg(1, 2), seg(2, 1)}.damaged(t, 2)
	dir{seg(1, 2), seg(4)}.damaged(t, 2)
	dir{seg(1, 2), seg(2)}.damaged(t, 2)
	dir{seg(1, 2), seg(3, 1), seg(5, 1)}.damaged(t, 3)
	dir{seg(1, 2), seg(4, 1), seg(5, 1)}.damaged(t, 2)
	dir{seg(1, 2), seg(3, 1), seg(4, 1), seg(most, 1)}.damaged(t, 4)
	// Ahead of the needed ones a gap is none.
	marked(5).with(seg(1, 1), seg(5, 1, 1)).found(t, api.Opened{Base: 5, Last: 6, Replayed: 1}, 3, 2, stamped(5, 4).from(6, 6))
	marked(5).with(seg(1, 1), seg(5, 1), seg(7, 1)).damaged(t, 4)
}

// P17.1, 5: one without a batch: at the end of the log it is nothing, and none can follow it.
func TestWithoutBatch(t *testing.T) {
	dir{seg(1)}.found(t, api.Opened{}, 1, 2, at(0))
	dir{seg(1), seg(2, 1)}.damaged(t, 2)
	dir{seg(1), seg(2)}.damaged(t, 2)
	dir{seg(1), seg(2), seg(3)}.damaged(t, 2)
	segments(t, dir{seg(1, 2), seg(3)}.found(t, api.Opened{Last: 2, Replayed: 2}, 2, 2, at(2)), 1, size(1, 2), 3, 0)
	dir{seg(1, 2), seg(3), seg(4, 1)}.damaged(t, 3)
	dir{seg(1, 2), seg(3), seg(5, 1)}.damaged(t, 3)
	// Bytes that are no batch are torn; so it is damaged ahead of the one behind it.
	dir{file(logName(1), []byte{7}), seg(2, 1)}.damaged(t, 1)
	dir{seg(1, 2), file(logName(3), []byte{7}), seg(4, 1)}.damaged(t, 2)

	for base := range 5 {
		x := marked(base)
		x.with(seg(base+1)).found(t, api.Opened{Base: base, Last: base}, 3, 2, stamped(base, 4))
		x.with(seg(base+1), seg(base+2, 1)).damaged(t, 4)
		if base > 0 {
			x.with(seg(base, 1), seg(base+1)).found(t, api.Opened{Base: base, Last: base}, 3, 2, stamped(base, 4))
			x.with(seg(base), seg(base+1, 1)).found(t, api.Opened{Base: base, Last: base + 1, Replayed: 1}, 3, 2, stamped(base, 4).from(base+1, base+1))
		}
	}
}

// tails is bytes that stand behind the batches up to a number and are none of them: torn ones, and whole frames that do not follow.
func tails(next int) [][]byte {
	whole := rows(next, history, 1)
	turned := slices.Clone(whole)
	turned[len(turned)-1] ^= 1
	again := rows(next+1, history, 1)
	return [][]byte{
		{1}, {0}, {0, 0, 0, 0, 0, 0, 0}, {0, 0, 0, 0, 0, 0, 0, 0}, make([]byte, 100),
		whole[:8], whole[:7], whole[:len(whole)-1],
		turned,
		slices.Concat(turned, whole),
		again, slices.Concat(again, whole),
		slices.Concat(whole[:len(whole)-1], whole),
		sealed([]byte("no batch")), slices.Concat(sealed([]byte{0}), whole),
		sealed(append(whole[8:], 0)),
	}
}

// P17.1, 5 and 8: torn bytes in the last segment are cut off, whatever they are; in one ahead of it they are damage; in one that is not needed they are nothing.
func TestTorn(t *testing.T) {
	for _, tail := range tails(4) {
		n := len(tail)
		last := dir{seg(1, 2), seg(3, 1)}.more(logName(3), tail...)
		s := last.found(t, api.Opened{Last: 3, Replayed: 3, Torn: n}, 2, 3, at(3))
		segments(t, s, 1, size(1, 2), 3, size(3, 1))
		last.with(seg(4, 1)).damaged(t, 2)
		last.with(seg(4)).damaged(t, 2)
		last.with(seg(most)).damaged(t, 2)
		marked(3).with(last...).found(t, api.Opened{Base: 3, Last: 3, Torn: n}, 3, 3, stamped(3, 4))
		marked(3).with(last...).with(seg(4, 1)).found(t, api.Opened{Base: 3, Last: 4, Replayed: 1}, 3, 2, stamped(3, 4).from(4, 4))
	}
	for _, tail := range tails(1) {
		n := len(tail)
		segments(t, dir{file(logName(1), tail)}.found(t, api.Opened{Torn: n}, 1, 3, at(0)), 1, 0)
	}
	for _, tail := range tails(6) {
		n := len(tail)
		segments(t, marked(5).with(file(logName(6), tail)).found(t, api.Opened{Base: 5, Last: 5, Torn: n}, 3, 3, stamped(5, 4)), 6, 0)
		dir{seg(1, 5), file(logName(6), tail)}.found(t, api.Opened{Last: 5, Replayed: 5, Torn: n}, 2, 3, at(5))
	}
}

// P17.1, 5: each beginning of a segment that is the last one, and of one that is not; each byte of it turned.
func TestEachPlace(t *testing.T) {
	name := logName(3)
	x := dir{seg(1, 2), seg(3, 1, 2, 1)}
	ends := []int{0, size(3, 1), size(3, 1, 2), size(3, 1, 2, 1)}
	lasts := []int{2, 3, 5, 6}
	all := x.bytes(name)
	for i := range len(all) + 1 {
		k := 0
		for k+1 < len(ends) && ends[k+1] <= i {
			k++
		}
		strokes := 2
		if i > ends[k] {
			strokes = 3
		}
		cut := x.with(file(name, all[:i]))
		segments(t, cut.found(t, api.Opened{Last: lasts[k], Replayed: lasts[k], Torn: i - ends[k]}, 2, strokes, at(lasts[k])), 1, size(1, 2), 3, ends[k])
		if strokes == 3 {
			cut.with(seg(max(lasts[k]+1, 4), 1)).damaged(t, 2)
		}
		if i < len(all) {
			x.turned(name, i).found(t, api.Opened{Last: lasts[k], Replayed: lasts[k], Torn: len(all) - ends[k]}, 2, 3, at(lasts[k]))
			x.turned(name, i).with(seg(7, 1)).damaged(t, 2)
		}
	}
}

// P17.1, 5: a batch at the base: below it, just at it, over it, behind it.
func TestBatchAtBase(t *testing.T) {
	for base := 1; base < 12; base++ {
		for first := 1; first <= base; first++ {
			for count := 1; count < 12; count++ {
				x := marked(base).with(seg(first, count))
				switch last := first + count - 1; {
				case last < base:
					x.damaged(t, 3)
					rest := base - last
					marked(base).with(seg(first, count, rest)).found(t, api.Opened{Base: base, Last: base}, 3, 2, stamped(base, 4))
					marked(base).with(seg(first, count, rest, 2)).found(t, api.Opened{Base: base, Last: base + 2, Replayed: 2}, 3, 2, stamped(base, 4).from(base+1, base+2))
					marked(base).with(seg(first, count, rest+1)).damaged(t, 3)
				case last == base:
					x.found(t, api.Opened{Base: base, Last: base}, 3, 2, stamped(base, 4))
					x.with(seg(base+1, 2)).found(t, api.Opened{Base: base, Last: base + 2, Replayed: 2}, 3, 2, stamped(base, 4).from(base+1, base+2))
				default:
					x.damaged(t, 3)
					x.with(seg(last+1, 1)).damaged(t, 3)
					x.more(logName(first), 0).damaged(t, 3)
				}
			}
		}
		marked(base).with(seg(base+1, 3)).found(t, api.Opened{Base: base, Last: base + 3, Replayed: 3}, 3, 2, stamped(base, 4).from(base+1, base+3))
	}
}

// P17.1, 5: a batch over the base is damage at once: neither the bytes behind it nor a segment behind it count, and no other is read.
func TestOverBaseAtOnce(t *testing.T) {
	x := marked(5).with(seg(4, 1, 2), seg(7, 1))
	x.damaged(t, 3)
	x.more(logName(4), 1, 2, 3).damaged(t, 3)
	x.without(logName(7)).more(logName(4), 1, 2, 3).damaged(t, 3)
	// Cut off ahead of the base it is not there; but then the log ends ahead of the base.
	x.without(logName(7)).cut(logName(4), 1).damaged(t, 3)
	// In a directory that begins ahead of the base by more than one segment only the last of these is looked at.
	marked(5).with(seg(3, 3), seg(6, 1)).found(t, api.Opened{Base: 5, Last: 6, Replayed: 1}, 3, 2, stamped(5, 4).from(6, 6))
	marked(5).with(seg(3, 4), seg(6, 1)).found(t, api.Opened{Base: 5, Last: 6, Replayed: 1}, 3, 2, stamped(5, 4).from(6, 6))
	marked(5).with(seg(3, 4), seg(7, 1)).damaged(t, 3)
}

// P17.1, 6: the last transaction is below the base: with batches, and without one; torn or not, there is no stroke.
func TestBelowBase(t *testing.T) {
	for _, tail := range [][]byte{nil, {1, 2, 3}} {
		marked(5).with(seg(1, 4)).more(logName(1), tail...).damaged(t, 3)
		marked(5).with(seg(1, 1, 1, 1, 1)).more(logName(1), tail...).damaged(t, 3)
		marked(5).with(seg(5)).more(logName(5), tail...).damaged(t, 3)
		marked(5).with(seg(1)).more(logName(1), tail...).damaged(t, 3)
		marked(5).with(seg(1, 3), seg(4)).more(logName(4), tail...).damaged(t, 3)
		marked(5).with(seg(1, 3), seg(4, 1)).more(logName(4), tail...).damaged(t, 3)
		marked(5).with(seg(1, 3), seg(4, 2)).more(logName(4), tail...).found(t, api.Opened{Base: 5, Last: 5, Torn: len(tail)}, 3, 2+min(len(tail), 1), stamped(5, 4))
	}
}
