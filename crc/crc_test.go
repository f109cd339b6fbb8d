package crc_test

import (
	"bytes"
	"hash/crc32"
	"math"
	"runtime"
	"slices"
	"sync"
	"testing"
	"time"
	"weak"

	"treadle/crc"
)

// sums are beginnings: those at the edges, and some that are no short row's sum.
var sums = []uint32{0, 1, 7, 0x80000000, 0x82f63b78, 0x55555555, 0xdeadbeef, 0xfffffffe, math.MaxUint32}

// row is n bytes, others for each seed.
func row(n, seed int) []byte {
	p := make([]byte, n)
	s := uint32(seed)*2654435761 + 1
	for i := range p {
		s = s*1664525 + 1013904223
		p[i] = byte(s >> 24)
	}
	return p
}

// turned is a number with all its digits turned round.
func turned(s uint32) uint32 { return math.MaxUint32 - s }

// slow is Update as the chapter says it, digit by digit.
func slow(sum uint32, p []byte) uint32 {
	s := turned(sum)
	for _, c := range p {
		s ^= uint32(c)
		for i := 0; i < 8; i++ {
			if s%2 == 1 {
				s = s/2 ^ 0x82f63b78
			} else {
				s /= 2
			}
		}
	}
	return turned(s)
}

// slowCombine is Combine as the chapter says it, with the bytes 0 laid out.
func slowCombine(a, b uint32, n int) uint32 {
	z := make([]byte, max(n, 0))
	return slow(a, z) ^ slow(0, z) ^ b
}

// times is the product of two sums as polynomials, the highest digit the one of x^0.
func times(a, b uint32) uint32 {
	var to uint32
	for i := 31; i >= 0; i-- {
		if a>>i&1 == 1 {
			to ^= b
		}
		if b&1 == 1 {
			b = b>>1 ^ 0x82f63b78
		} else {
			b >>= 1
		}
	}
	return to
}

// farCombine is Combine by powers of x, so that n may be as great as it likes.
func farCombine(a, b uint32, n int) uint32 {
	power := uint32(0x80000000) // x^0
	square := uint32(1 << 23)   // x^8
	for k := max(n, 0); k > 0; k /= 2 {
		if k%2 == 1 {
			power = times(power, square)
		}
		square = times(square, square)
	}
	return times(power, a) ^ b
}

// xor is a row by exclusive or with others of its length.
func xor(rows ...[]byte) []byte {
	to := make([]byte, len(rows[0]))
	for _, p := range rows {
		for i, c := range p {
			to[i] ^= c
		}
	}
	return to
}

func same(t *testing.T, promise string, got, want uint32) {
	t.Helper()
	if got != want {
		t.Errorf("%s: %x, not %x", promise, got, want)
	}
}

// P2.1: the chapter's own sums.
func TestUpdateKnown(t *testing.T) {
	for _, c := range []struct {
		sum  uint32
		p    []byte
		want uint32
	}{
		{0, nil, 0},
		{0, []byte{}, 0},
		{0, []byte{0}, 0x527d5351},
		{0, make([]byte, 16), 0x42709aea},
		{0, make([]byte, 32), 0x8a9136aa},
		{0, bytes.Repeat([]byte{0xff}, 32), 0x62a8ab43},
		{0, []byte{0xff}, 0xff000000},
		{0, []byte("123456789"), 0xe3069283},
		{0x527d5351, nil, 0x527d5351},
		{math.MaxUint32, nil, math.MaxUint32},
		{math.MaxUint32, []byte{0}, math.MaxUint32},
		{math.MaxUint32, make([]byte, 1000), math.MaxUint32},
	} {
		same(t, "P2.1", crc.Update(c.sum, c.p), c.want)
	}
}

// P2.1: each byte, behind each of the sums, alone and behind another byte.
func TestUpdateEachByte(t *testing.T) {
	for _, sum := range sums {
		for c := range 256 {
			for _, p := range [][]byte{{byte(c)}, {0, byte(c)}, {byte(c), 0xff}, {byte(c), byte(c), byte(c)}} {
				same(t, "P2.1", crc.Update(sum, p), slow(sum, p))
			}
		}
	}
}

// P2.1: rows of many lengths, held against the steps and against another maker of such sums.
func TestUpdateRows(t *testing.T) {
	castagnoli := crc32.MakeTable(crc32.Castagnoli)
	for _, n := range []int{0, 1, 2, 3, 4, 5, 7, 8, 9, 15, 16, 17, 63, 64, 65, 255, 256, 257, 1000, 4099, 1 << 17} {
		p := row(n, n)
		for _, sum := range sums {
			want := slow(sum, p)
			same(t, "P2.1", crc.Update(sum, p), want)
			same(t, "P2.1, the library", crc32.Update(sum, castagnoli, p), want)
		}
	}
}

// P2.2: Of begins at 0, whatever was asked before.
func TestOf(t *testing.T) {
	for n := range 300 {
		p := row(n, 5)
		want := slow(0, p)
		same(t, "P2.2", crc.Of(p), want)
		same(t, "P2.2", crc.Update(0, p), want)
		crc.Update(want, p)
		same(t, "P2.2, again", crc.Of(p), want)
	}
	same(t, "P2.2", crc.Of([]byte("123456789")), 0xe3069283)
}

// P2.3: the chapter's own, and lengths at their edges.
func TestCombineKnown(t *testing.T) {
	for _, c := range []struct {
		a, b uint32
		n    int
		want uint32
	}{
		{crc.Of([]byte("1234")), crc.Of([]byte("56789")), 5, 0xe3069283},
		{7, 0, 0, 7},
		{7, 9, -3, 14},
		{7, 9, -1, 14},
		{7, 9, math.MinInt, 14},
		{math.MaxUint32, math.MaxUint32, 0, 0},
		{1, 0, 1, 0xf26b8303},
		{1, 0, 1 << 62, 0xf26b8303},
		{0, 0, math.MaxInt, 0},
		{0, 9, math.MaxInt, 9},
	} {
		same(t, "P2.3", crc.Combine(c.a, c.b, c.n), c.want)
	}
}

// P2.3: any two numbers, a row's sums or not, behind so many bytes 0 laid out.
func TestCombineLaidOut(t *testing.T) {
	for n := -2; n < 70; n++ {
		for _, a := range sums {
			for _, b := range sums {
				same(t, "P2.3", crc.Combine(a, b, n), slowCombine(a, b, n))
			}
		}
	}
	for _, n := range []int{255, 256, 257, 4095, 65536, 100003} {
		same(t, "P2.3", crc.Combine(0xdeadbeef, 0x12345678, n), slowCombine(0xdeadbeef, 0x12345678, n))
	}
	for i := range 32 {
		same(t, "P2.3, one digit", crc.Combine(1<<i, 0, 3), slowCombine(1<<i, 0, 3))
		same(t, "P2.3, one digit", crc.Combine(0, 1<<i, 3), 1<<i)
	}
}

// P2.3: lengths that nobody lays out, each of their digits.
func TestCombineFar(t *testing.T) {
	lengths := []int{math.MaxInt, math.MaxInt - 1, 1<<62 + 1, 1<<62 - 1, math.MaxInt32, math.MaxUint32, math.MinInt, math.MinInt + 1}
	for i := range 63 {
		lengths = append(lengths, 1<<i, -1<<i, math.MaxInt>>i, math.MaxInt^1<<i)
	}
	for _, n := range lengths {
		for _, a := range sums {
			same(t, "P2.3", crc.Combine(a, 0x0badcafe, n), farCombine(a, 0x0badcafe, n))
		}
	}
}

// P2.3: it ends soon; going byte by byte through the greatest length would take years.
func TestCombineEndsSoon(t *testing.T) {
	done := make(chan uint32, 1)
	go func() {
		s := uint32(1)
		for i := range 2000 {
			s = crc.Combine(s, uint32(i), math.MaxInt-i)
		}
		done <- s
	}()
	select {
	case <-done:
	case <-time.After(time.Minute):
		t.Fatal("P2.3: 2000 calls have not ended in a minute")
	}
}

// P2.4: nothing has the sum 0, and adds nothing.
func TestNothing(t *testing.T) {
	for _, p := range [][]byte{nil, {}, make([]byte, 0, 8)} {
		same(t, "P2.4", crc.Of(p), 0)
		for _, sum := range sums {
			same(t, "P2.4", crc.Update(sum, p), sum)
			same(t, "P2.4", crc.Combine(sum, crc.Of(p), len(p)), sum)
			same(t, "P2.4", crc.Combine(crc.Of(p), sum, 11), sum)
		}
	}
}

// P2.4: a row that is cut anywhere has one sum, by Update and by Combine.
func TestCutAnywhere(t *testing.T) {
	for _, whole := range [][]byte{row(90, 1), make([]byte, 40), bytes.Repeat([]byte{0xff}, 40), []byte("123456789")} {
		want := crc.Of(whole)
		for i := range len(whole) + 1 {
			p, q := whole[:i], whole[i:]
			same(t, "P2.4, Update", crc.Update(crc.Of(p), q), want)
			same(t, "P2.4, Combine", crc.Combine(crc.Of(p), crc.Of(q), len(q)), want)
			for _, sum := range sums {
				same(t, "P2.4, from a sum", crc.Update(crc.Update(sum, p), q), crc.Update(sum, whole))
			}
		}
	}
}

// P2.4: three parts joined in either grouping are one sum.
func TestCombineGroups(t *testing.T) {
	lengths := []int{0, 1, 2, 5, 64, 1000, math.MaxInt32, 1 << 40, 1<<61 + 3, 1<<62 - 1, math.MaxInt - 7}
	for _, m := range lengths {
		for _, n := range lengths {
			if m > math.MaxInt-n {
				continue
			}
			for i, a := range sums {
				b, c := sums[(i+2)%len(sums)], sums[(i+5)%len(sums)]
				same(t, "P2.4", crc.Combine(a, crc.Combine(b, c, n), m+n), crc.Combine(crc.Combine(a, b, m), c, n))
			}
		}
	}
	p, q, r := row(31, 2), row(200, 3), row(7, 4)
	want := crc.Of(slices.Concat(p, q, r))
	same(t, "P2.4", crc.Combine(crc.Combine(crc.Of(p), crc.Of(q), 200), crc.Of(r), 7), want)
	same(t, "P2.4", crc.Combine(crc.Of(p), crc.Combine(crc.Of(q), crc.Of(r), 7), 207), want)
}

// P2.5: three rows by exclusive or, as rows and as sums.
func TestThreeRows(t *testing.T) {
	for n := range 120 {
		x, y, z := row(n, 6), row(n, 7), row(n, 8)
		same(t, "P2.5", crc.Of(x)^crc.Of(y)^crc.Of(z), crc.Of(xor(x, y, z)))
		same(t, "P2.5, one row twice", crc.Of(x)^crc.Of(x)^crc.Of(z), crc.Of(z))
	}
}

// P2.5: five other bytes in the place of five bytes 0, anywhere in a row.
func TestFiveBytes(t *testing.T) {
	five := []byte{0xf1, 0x76, 0xec, 0x05, 0x01}
	same(t, "P2.5", crc.Of(five), 0x45727635)
	same(t, "P2.5", crc.Of(make([]byte, 5)), 0x45727635)
	for n := 5; n < 60; n++ {
		for at := range n - 4 {
			p := row(n, at)
			clear(p[at : at+5])
			want := crc.Of(p)
			copy(p[at:], five)
			same(t, "P2.5", crc.Of(p), want)
			for _, sum := range sums {
				same(t, "P2.5, from a sum", crc.Update(sum, p), slow(sum, p))
			}
			p[at] ^= 1
			if crc.Of(p) == want {
				t.Errorf("P2.5: one digit more at %d of %d is not seen", at, n)
			}
		}
	}
}

// W6: the bytes handed in stay as they are, with the room behind their end, and none is kept.
func TestHandedIn(t *testing.T) {
	room := row(64, 9)
	before := slices.Clone(room)
	p := room[8:40]
	of := crc.Of(p)
	update := crc.Update(of, p)
	if !bytes.Equal(room, before) {
		t.Error("W6: the bytes were changed")
	}
	clear(room)
	same(t, "W6, Of", crc.Of(before[8:40]), of)
	same(t, "W6, Update", crc.Update(of, before[8:40]), update)
	same(t, "W6, other bytes in the same place", crc.Of(p), slow(0, make([]byte, 32)))
}

// W6: bytes that were summed up are let go as soon as their owner lets them go.
func TestNotKept(t *testing.T) {
	// A goroutine of their own, so that no stack of this one holds them any more.
	told := make(chan weak.Pointer[[1 << 16]byte])
	go func() {
		p := new([1 << 16]byte)
		crc.Update(crc.Of(p[:]), p[:])
		told <- weak.Make(p)
	}()
	seen := <-told
	for range 10 {
		runtime.GC()
		if seen.Value() == nil {
			return
		}
	}
	t.Error("W6: the bytes are kept")
}

// W2: the same is answered, however often and whoever asks.
func TestSameAnswer(t *testing.T) {
	p := row(500, 10)
	of, joined := crc.Of(p), crc.Combine(3, 4, math.MaxInt)
	var wait sync.WaitGroup
	for range 8 {
		wait.Go(func() {
			for range 50 {
				same(t, "W2", crc.Of(p), of)
				same(t, "W2", crc.Combine(3, 4, math.MaxInt), joined)
			}
		})
	}
	wait.Wait()
}
