package seglog_test

import (
	"bytes"
	"math"
	"slices"
	"testing"

	"treadle/api"
	"treadle/batch"
	"treadle/seglog"
)

// goes holds what Scan goes through against what is wanted.
func goes(t *testing.T, data []byte, first int, want ...step) {
	t.Helper()
	for _, all := range [][]step{scanned(data, first), slowScan(data, first)} {
		if !slices.EqualFunc(all, want, sameStep) {
			t.Errorf("P13.2: Scan of %d bytes from %d: %s, not %s", len(data), first, told(all), told(want))
		}
	}
}

// three is a segment of three batches, what Scan goes through, and the number that follows.
func three(first int) ([]byte, []step, int) {
	a, b, c := from(first, calls(2, 1)...), from(first+2, define(put2())), from(first+3, calls(64, 2)...)
	var data []byte
	var all []step
	for _, x := range []api.Batch{a, b, c} {
		data = append(data, framed(bodyOf(x))...)
		all = append(all, step{x, len(data)})
	}
	return data, all, first + 67
}

// P13.2: no frame, one, many.
func TestScanPlain(t *testing.T) {
	goes(t, nil, 1)
	goes(t, []byte{}, 1)
	one := from(7, call("p"))
	data := framed(bodyOf(one))
	goes(t, data, 7, step{one, 14})
	for _, first := range []int{math.MinInt, -7, 0, 1, 6, 8, api.MaxNumber, api.MaxNumber + 1, math.MaxInt} {
		goes(t, data, first)
		goes(t, nil, first)
	}
	for _, first := range []int{1, 2, 125, 127, 128, 16383, 1 << 40, api.MaxNumber - 66} {
		data, all, _ := three(first)
		goes(t, data, first, all...)
		goes(t, data, first+1)
		goes(t, data, first-1)
		goes(t, data[all[0].at:], first)
	}
	// A body that is no batch has no First, not even 0.
	for _, first := range []int{0, -1, 1} {
		goes(t, slices.Concat(framed([]byte("no batch")), framed([]byte{0}), framed(bodyOf(one))), first)
		goes(t, framed([]byte{0, 1, 2, 1, 'p', 0}), first)
	}
	// A long one.
	var many []byte
	var want []step
	for i := range 3000 {
		b := from(1+2*i, calls(2, i)...)
		many = append(many, framed(bodyOf(b))...)
		want = append(want, step{b, len(many)})
	}
	goes(t, many, 1, want...)
}

// P13.2: bytes written out.
func TestScanWrittenOut(t *testing.T) {
	data := []byte{0x09, 0x00, 0x00, 0x00, 0x71, 0xd0, 0xeb, 0x03, 0x01, 0x01, 0x02, 0x01, 0x70, 0x01, 0x02, 0x01, 0x0e}
	goes(t, data, 1, step{from(1, call("p", num(7))), 17})
}

// P13.2: what cannot be gone on with, at the beginning and further on; what stands behind it is not looked at.
func TestScanStops(t *testing.T) {
	for _, first := range []int{1, 300} {
		data, all, next := three(first)
		good := framed(bodyOf(from(next, call("p"))))
		torn := slices.Clone(good)
		torn[len(torn)-1] ^= 1
		for _, bad := range [][]byte{
			good[:1], good[:7], good[:8], good[:len(good)-1], torn,
			make([]byte, 1), make([]byte, 8), make([]byte, 9), make([]byte, 100),
			framed([]byte{0}), framed([]byte("no batch")), framed(append(bodyOf(from(next, call("p"))), 0)), framed(bodyOf(from(next, call("p")))[:5]),
			framed(bodyOf(from(next+1, call("p")))), framed(bodyOf(from(next-1, call("p")))), framed(bodyOf(from(first, call("p")))),
			framed(bodyOf(from(1<<40, call("p")))), framed(slices.Concat([]byte{0}, bodyOf(from(next, call("p")))[1:])),
			slices.Concat([]byte{0}, good),
		} {
			for _, behind := range [][]byte{nil, good, data, make([]byte, 50)} {
				rest := slices.Concat(bad, behind)
				if len(bad) < len(good) && bytes.HasPrefix(good, bad) && len(behind) > 0 {
					continue // what stands behind it may be the rest of it
				}
				goes(t, slices.Concat(data, rest), first, all...)
				goes(t, rest, next)
				goes(t, slices.Concat(data[:all[0].at], rest), first, all[0])
			}
		}
		goes(t, slices.Concat(data, good), first, append(slices.Clip(all), step{from(next, call("p")), len(data) + len(good)})...)
	}
}

// P13.2: each cut of a segment, each byte of it changed.
func TestScanEachCut(t *testing.T) {
	data, all, _ := three(100)
	for n := range len(data) {
		var want []step
		for _, x := range all {
			if x.at <= n {
				want = append(want, x)
			}
		}
		goes(t, data[:n], 100, want...)
		noughts := append(slices.Clone(data[:n]), make([]byte, len(data)-n)...)
		goes(t, noughts, 100, slowScan(noughts, 100)...)
		other := slices.Clone(data)
		other[n] ^= 0x10
		goes(t, other, 100, want...)
	}
}

// P13.2: about the greatest number: nothing can follow it.
func TestScanAtTheEnd(t *testing.T) {
	a, b := from(api.MaxNumber-1, call("p")), from(api.MaxNumber, call("q"))
	data := slices.Concat(framed(bodyOf(a)), framed(bodyOf(b)))
	n := len(framed(bodyOf(a)))
	goes(t, data, api.MaxNumber-1, step{a, n}, step{b, len(data)})
	goes(t, slices.Concat(data, framed(bodyOf(b))), api.MaxNumber-1, step{a, n}, step{b, len(data)})
	// Bytes that say the number behind it are no batch.
	above := slices.Concat([]byte{0x80, 0x80, 0x80, 0x80, 0x80, 0x80, 0x40}, bodyOf(from(1, call("p")))[1:])
	if _, e := batch.Decode(above); e != api.ErrArg {
		t.Errorf("these bytes are %v", e)
	}
	goes(t, slices.Concat(data, framed(above)), api.MaxNumber-1, step{a, n}, step{b, len(data)})
	goes(t, framed(above), api.MaxNumber+1)
}

// P13.2: a body of the greatest length.
func TestScanLong(t *testing.T) {
	b := from(1, sized(t, 65536)...)
	body := bodyOf(b)
	if len(body) != 65536 {
		t.Fatalf("%d bytes", len(body))
	}
	data := slices.Concat(framed(body), framed(bodyOf(from(1+len(b.Txns), call("p")))))
	goes(t, data, 1, step{b, 65544}, step{from(1+len(b.Txns), call("p")), len(data)})
	long := framed(append(slices.Clone(body), 0))
	goes(t, long, 1)
	goes(t, slices.Concat(long, data), 1)
}

// W1: a loop that is stopped; W7: the same iterator once more, and by loops one inside another.
func TestScanStopped(t *testing.T) {
	data, all, _ := three(5)
	it := seglog.Scan(data, 5)
	for stop := range 4 {
		var got []step
		for b, at := range it {
			got = append(got, step{b, at})
			if len(got) > stop {
				break
			}
		}
		if !slices.EqualFunc(got, all[:min(stop+1, 3)], sameStep) {
			t.Errorf("W1, W7: stopped behind %d: %s", stop, told(got))
		}
	}
	asked := 0
	it(func(api.Batch, int) bool { asked++; return false })
	if asked != 1 {
		t.Errorf("W1: told to stop, it hands on %d", asked)
	}
	n := 0
	for a, x := range it {
		for b, y := range it {
			if !sameStep(step{a, x}, all[n/3]) || !sameStep(step{b, y}, all[n%3]) {
				t.Errorf("W7: loops one inside another: %d and %d at %d", a.First, b.First, n)
			}
			n++
		}
	}
	if n != 9 {
		t.Errorf("W7: %d steps of two loops", n)
	}
outer:
	for range it {
		for range it {
			break outer
		}
	}
	if got := len(slices.Collect(func(yield func(int) bool) {
		for _, at := range it {
			if !yield(at) {
				return
			}
		}
	})); got != 3 {
		t.Errorf("W7: %d steps behind it", got)
	}
}

// W7: data changed between Scan and the loop, and inside the loop.
func TestScanOwnBytes(t *testing.T) {
	data, all, _ := three(5)
	it := seglog.Scan(data, 5)
	clear(data)
	for range 2 {
		var got []step
		for b, at := range it {
			got = append(got, step{b, at})
			for i := range data {
				data[i]++
			}
		}
		if !slices.EqualFunc(got, all, sameStep) {
			t.Errorf("W7: changed bytes: %s", told(got))
		}
	}
	// Bytes laid behind the end, in the room of the same list.
	data, all, next := three(5)
	more := framed(bodyOf(from(next, call("p"))))
	room := append(slices.Clip(data), more...)
	it = seglog.Scan(room[:len(data)], 5)
	n := 0
	for _, at := range it {
		n++
		if at > len(data) {
			t.Errorf("P13.2: it goes on behind the end")
		}
	}
	if n != len(all) {
		t.Errorf("P13.2: %d steps", n)
	}
}

// P13.2: random bytes, and random changes of good ones, against the chapter's words.
func TestScanAgainstWords(t *testing.T) {
	r := chanceOf(13)
	stopped := 0
	for range 5000 {
		first := 1 + r.Intn(300)
		var data []byte
		next := first
		n := r.Intn(8)
		for range n {
			txns := r.txns()
			at := next
			if r.Intn(12) == 0 {
				at = max(1, next+r.Intn(5)-2)
			}
			body := bodyOf(from(at, txns...))
			if r.Intn(12) == 0 {
				body[r.Intn(len(body))] ^= 1 << r.Intn(8)
			}
			data = append(data, framed(body)...)
			next = at + len(txns)
		}
		switch r.Intn(4) {
		case 0:
			data = append(data, make([]byte, r.Intn(20))...)
		case 1:
			if len(data) > 0 {
				data[r.Intn(len(data))] ^= 1 << r.Intn(8)
			}
		case 2:
			data = data[:r.Intn(len(data)+1)]
		}
		want := slowScan(data, first)
		if len(want) < n {
			stopped++
		}
		goes(t, data, first, want...)
	}
	if stopped < 1000 || stopped > 4500 {
		t.Errorf("%d are given up", stopped)
	}
}
