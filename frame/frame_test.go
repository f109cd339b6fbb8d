package frame_test

import (
	"bytes"
	"encoding/binary"
	"encoding/hex"
	"fmt"
	"hash/crc32"
	"math"
	"math/rand"
	"runtime"
	"slices"
	"strings"
	"sync"
	"testing"
	"weak"

	"treadle/api"
	"treadle/frame"
)

var castagnoli = crc32.MakeTable(crc32.Castagnoli)

// row is n bytes, others for each seed.
func row(n, seed int) []byte {
	p := make([]byte, n)
	rand.New(rand.NewSource(int64(seed))).Read(p)
	return p
}

// laid is a frame as the chapter says it, with any length in its head and the sum that fits that length.
func laid(length uint32, body []byte) []byte {
	first := binary.LittleEndian.AppendUint32(nil, length)
	sum := crc32.Checksum(slices.Concat(first, body), castagnoli)
	return slices.Concat(binary.LittleEndian.AppendUint32(first, sum), body)
}

// plain is the frame of a body, as the chapter says it.
func plain(body []byte) []byte { return laid(uint32(len(body)), body) }

// slowNext is Next as the chapter says it.
func slowNext(b []byte, at int) ([]byte, int, api.Errno) {
	if at < 0 || at > len(b) {
		return nil, 0, api.ErrArg
	}
	if at == len(b) {
		return nil, 0, api.ErrEnd
	}
	left := b[at:]
	if len(left) < 8 {
		return nil, 0, api.ErrTorn
	}
	length := int64(left[0]) + int64(left[1])*256 + int64(left[2])*65536 + int64(left[3])*16777216
	if length == 0 || length > 65536 || length > int64(len(left)-8) {
		return nil, 0, api.ErrTorn
	}
	body := left[8 : 8+length]
	if !bytes.Equal(left[:8+length], plain(body)) {
		return nil, 0, api.ErrTorn
	}
	return body, at + 8 + int(length), api.OK
}

// one is a frame that an iterator hands on.
type one struct {
	at   int
	body string
}

func (o one) String() string { return fmt.Sprintf("%d %q", o.at, o.body) }

// slowScan is Scan and Whole by slowNext.
func slowScan(b []byte) ([]one, int) {
	var all []one
	at := 0
	for {
		body, end, e := slowNext(b, at)
		if e != api.OK {
			return all, at
		}
		all = append(all, one{at, string(body)})
		at = end
	}
}

// scanned is what an iterator hands on, all of it.
func scanned(it func(func(int, []byte) bool)) []one {
	var all []one
	for at, body := range it {
		all = append(all, one{at, string(body)})
	}
	return all
}

// sealed is a frame by Seal.
func sealed(t *testing.T, dst, body []byte) []byte {
	t.Helper()
	b, e := frame.Seal(dst, body)
	if e != api.OK {
		t.Fatalf("P4.1: Seal of %d bytes: %v", len(body), e)
	}
	return b
}

// many is frames one behind the other, and their bodies.
func many(t *testing.T, sizes ...int) ([]byte, []one) {
	t.Helper()
	var b []byte
	var all []one
	for i, n := range sizes {
		body := row(n, i)
		all = append(all, one{len(b), string(body)})
		b = sealed(t, b, body)
	}
	return b, all
}

// next asks Next, and holds the answer against what is wanted.
func next(t *testing.T, promise string, b []byte, at int, body string, end int, want api.Errno) {
	t.Helper()
	got, place, e := frame.Next(b, at)
	if e != want || string(got) != body || place != end {
		t.Errorf("%s: at %d of %d: %x, %d, %v, not %x, %d, %v", promise, at, len(b), got, place, e, body, end, want)
	}
}

// agrees holds Next at every place, Scan and Whole against the slow ones.
func agrees(t *testing.T, b []byte) {
	t.Helper()
	for at := -1; at <= len(b)+1; at++ {
		body, end, e := slowNext(b, at)
		next(t, "P4.2", b, at, string(body), end, e)
	}
	all, whole := slowScan(b)
	if got := scanned(frame.Scan(b)); !slices.Equal(got, all) {
		t.Errorf("P4.3: %v, not %v", got, all)
	}
	if got := frame.Whole(b); got != whole {
		t.Errorf("P4.4: %d, not %d", got, whole)
	}
}

func unhex(s string) []byte {
	b, err := hex.DecodeString(strings.ReplaceAll(s, " ", ""))
	if err != nil {
		panic(err)
	}
	return b
}

// P4.1: the chapter's own.
func TestSealKnown(t *testing.T) {
	if b := sealed(t, nil, []byte("a")); !bytes.Equal(b, unhex("01 00 00 00 f8 09 ce ee 61")) {
		t.Errorf("P4.1: %x", b)
	}
	if b := sealed(t, []byte{0xff}, []byte("ab")); len(b) != 11 || b[0] != 0xff {
		t.Errorf("P4.1: %x", b)
	}
}

// P4.1: bodies of each length that may be, behind each kind of dst.
func TestSealLengths(t *testing.T) {
	for _, n := range []int{1, 2, 3, 7, 8, 9, 255, 256, 257, 4095, 65535, api.MaxBody} {
		for _, body := range [][]byte{row(n, n), make([]byte, n), bytes.Repeat([]byte{0xff}, n)} {
			for _, dst := range [][]byte{nil, {}, make([]byte, 0, n+100), {0}, row(9, 1), append(make([]byte, 0, n+100), "dst"...)} {
				if b := sealed(t, dst, body); !bytes.Equal(b, slices.Concat(dst, plain(body))) {
					t.Errorf("P4.1: %d bytes behind %d are not dst and the frame", n, len(dst))
				}
			}
		}
	}
}

// P4.1, W3: bodies that may not be, and nothing beside the error.
func TestSealRefuses(t *testing.T) {
	for _, dst := range [][]byte{nil, {}, []byte("dst"), make([]byte, 0, 1<<18)} {
		for _, c := range []struct {
			body []byte
			want api.Errno
		}{
			{nil, api.ErrShort},
			{[]byte{}, api.ErrShort},
			{make([]byte, 0, 9), api.ErrShort},
			{make([]byte, api.MaxBody+1), api.ErrLong},
			{make([]byte, 2*api.MaxBody), api.ErrLong},
			{make([]byte, 1<<24), api.ErrLong},
		} {
			if b, e := frame.Seal(dst, c.body); e != c.want || len(b) != 0 {
				t.Errorf("P4.1: %d bytes: %d bytes, %v, not %v", len(c.body), len(b), e, c.want)
			}
		}
	}
}

// P4.1, W6: what is handed in stays as it is, behind its end too, and the answer shares no memory with it or with another answer.
func TestSealNewMemory(t *testing.T) {
	for _, n := range []int{1, 5, 300, api.MaxBody} {
		for _, k := range []int{0, 3} {
			dstRoom, bodyRoom := row(k+n+200, 1), row(n+50, 2)
			dstWas, bodyWas := slices.Clone(dstRoom), slices.Clone(bodyRoom)
			dst, body := dstRoom[:k], bodyRoom[:n]
			first, second := sealed(t, dst, body), sealed(t, dst, body)
			want := slices.Clone(first)
			clear(second[:cap(second)])
			if !bytes.Equal(first, want) {
				t.Errorf("W6: two answers share memory")
			}
			clear(first[:cap(first)])
			if !bytes.Equal(dstRoom, dstWas) || !bytes.Equal(bodyRoom, bodyWas) {
				t.Errorf("W6: %d behind %d: what was handed in is changed", n, k)
			}
			third := sealed(t, dst, body)
			clear(dstRoom)
			clear(bodyRoom)
			if !bytes.Equal(third, want) {
				t.Errorf("W6: the answer hangs on what was handed in")
			}
		}
	}
}

// P4.1: one row as dst and as body, and a body that stands in dst.
func TestSealOneRow(t *testing.T) {
	p := row(40, 3)
	was := slices.Clone(p)
	if b := sealed(t, p, p); !bytes.Equal(b, slices.Concat(was, plain(was))) {
		t.Errorf("P4.1: %x", b)
	}
	if b := sealed(t, p[:10], p[10:]); !bytes.Equal(b, slices.Concat(was[:10], plain(was[10:]))) {
		t.Errorf("P4.1: %x", b)
	}
	if !bytes.Equal(p, was) {
		t.Errorf("W6: what was handed in is changed")
	}
}

// P4.2: the chapter's own.
func TestNextKnown(t *testing.T) {
	a := unhex("01 00 00 00 f8 09 ce ee 61")
	next(t, "P4.2", a, 0, "a", 9, api.OK)
	next(t, "P4.2", a, 9, "", 0, api.ErrEnd)
	next(t, "P4.2", a, 10, "", 0, api.ErrArg)
	next(t, "P4.2", a, -1, "", 0, api.ErrArg)
	next(t, "P4.2", a, 1, "", 0, api.ErrTorn)
	next(t, "P4.2", a[:8], 0, "", 0, api.ErrTorn)
	other := slices.Clone(a)
	other[8] = 'b'
	next(t, "P4.2", other, 0, "", 0, api.ErrTorn)
	next(t, "P4.2", make([]byte, 9), 0, "", 0, api.ErrTorn)
}

// P4.2: places that may not be, ahead of all else, and the end ahead of what is torn.
func TestNextPlaces(t *testing.T) {
	whole, _ := many(t, 1, 30)
	for _, b := range [][]byte{nil, {}, {0}, make([]byte, 8), row(100, 1), whole} {
		for _, at := range []int{-1, -2, -8, -len(b) - 1, math.MinInt, math.MinInt + 1, math.MinInt32, len(b) + 1, len(b) + 8, math.MaxInt, math.MaxInt - 7, math.MaxInt32, math.MaxUint32} {
			next(t, "P4.2", b, at, "", 0, api.ErrArg)
		}
		next(t, "P4.2", b, len(b), "", 0, api.ErrEnd)
	}
	// What stands behind the end is not looked at.
	for i := range len(whole) {
		next(t, "P4.2, behind the end", whole[:i], i, "", 0, api.ErrEnd)
		next(t, "P4.2, behind the end", whole[:i], i+1, "", 0, api.ErrArg)
	}
}

// P4.2, P4.6: each beginning of a frame, alone and behind other bytes; of none it is the end.
func TestNextBeginnings(t *testing.T) {
	for _, n := range []int{1, 2, 8, 300} {
		whole := sealed(t, nil, row(n, n))
		for _, ahead := range [][]byte{nil, {7}, row(20, 4), plain([]byte("ahead"))} {
			b := slices.Concat(ahead, whole)
			next(t, "P4.6", b[:len(ahead)], len(ahead), "", 0, api.ErrEnd)
			for i := 1; i < len(whole); i++ {
				next(t, "P4.6", b[:len(ahead)+i], len(ahead), "", 0, api.ErrTorn)
				next(t, "P4.6", slices.Clone(b[:len(ahead)+i]), len(ahead), "", 0, api.ErrTorn)
			}
			next(t, "P4.2", b, len(ahead), string(row(n, n)), len(b), api.OK)
		}
	}
}

// P4.2: lengths at their edges, each with the sum that would fit.
func TestNextLengths(t *testing.T) {
	most := row(api.MaxBody, 1)
	for _, rest := range [][]byte{nil, {0}, row(100, 2)} {
		next(t, "P4.2, MaxBody", slices.Concat(plain(most), rest), 0, string(most), api.MaxBody+8, api.OK)
		next(t, "P4.2, above it", slices.Concat(plain(row(api.MaxBody+1, 3)), rest), 0, "", 0, api.ErrTorn)
		next(t, "P4.2, 0", slices.Concat(plain(nil), rest), 0, "", 0, api.ErrTorn)
	}
	for _, length := range []uint32{1 << 17, 1 << 24, 1<<31 - 1, 1 << 31, 1<<31 + 1, math.MaxUint32, math.MaxUint32 - 7, 1<<16 | 1, 1<<24 | 1, 1<<31 | 1} {
		for _, n := range []int{0, 1, 7, 100} {
			next(t, "P4.2, far above it", laid(length, row(n, 4)), 0, "", 0, api.ErrTorn)
		}
	}
	next(t, "P4.2, 131073", plain(row(131073, 4)), 0, "", 0, api.ErrTorn)
}

// P4.2: a length above what is left, with a sum that fits what is left.
func TestNextTooFewLeft(t *testing.T) {
	for _, n := range []int{0, 1, 2, 9, 255, api.MaxBody - 1} {
		for _, more := range []int{1, 2, 8, 9, 256} {
			next(t, "P4.2", laid(uint32(n+more), row(n, 5)), 0, "", 0, api.ErrTorn)
		}
	}
	// Behind the end there stands what is missing.
	b := plain(row(50, 6))
	next(t, "P4.2, room behind the end", b[:len(b)-1], 0, "", 0, api.ErrTorn)
	// A shorter length leaves bytes behind the frame, and they are not looked at.
	next(t, "P4.2", slices.Concat(plain(row(50, 6)), row(9, 7)), 0, string(row(50, 6)), 58, api.OK)
}

// P4.2: each byte of the head and of the body turned, digit by digit: no sum of this kind misses one digit.
func TestNextTurned(t *testing.T) {
	for _, n := range []int{1, 2, 5, 64} {
		for _, ahead := range []int{0, 3} {
			b := slices.Concat(row(ahead, 8), plain(row(n, 9)), row(20, 10))
			for i := ahead; i < ahead+8+n; i++ {
				for d := range 8 {
					b[i] ^= 1 << d
					next(t, "P4.2", b, ahead, "", 0, api.ErrTorn)
					b[i] ^= 1 << d
				}
				b[i] = ^b[i]
				next(t, "P4.2", b, ahead, "", 0, api.ErrTorn)
				b[i] = ^b[i]
			}
			next(t, "P4.2", b, ahead, string(row(n, 9)), ahead+8+n, api.OK)
		}
	}
}

// P4.2: the sum is one of the length and the body, in this order, and of nothing else.
func TestNextOtherSums(t *testing.T) {
	body := []byte("keel")
	length := []byte{4, 0, 0, 0}
	for _, over := range [][]byte{body, length, nil, slices.Concat(body, length), slices.Concat(length, make([]byte, 4), body), slices.Concat(length, body, []byte{0})} {
		sum := crc32.Checksum(over, castagnoli)
		next(t, "P4.2", slices.Concat(binary.LittleEndian.AppendUint32(slices.Clone(length), sum), body), 0, "", 0, api.ErrTorn)
	}
	sum := crc32.Checksum(slices.Concat(length, body), castagnoli)
	next(t, "P4.2, highest first", slices.Concat(binary.BigEndian.AppendUint32(slices.Clone(length), sum), body), 0, "", 0, api.ErrTorn)
	next(t, "P4.2, another kind of sum", slices.Concat(binary.LittleEndian.AppendUint32(slices.Clone(length), crc32.ChecksumIEEE(slices.Concat(length, body))), body), 0, "", 0, api.ErrTorn)
	next(t, "P4.2", slices.Concat(binary.LittleEndian.AppendUint32(slices.Clone(length), sum), body), 0, "keel", 12, api.OK)
}

// P4.2: every place of many frames, those inside a frame too, and of bytes of every kind.
func TestNextEveryPlace(t *testing.T) {
	whole, _ := many(t, 1, 8, 9, 2, 100, 1)
	agrees(t, nil)
	agrees(t, whole)
	agrees(t, slices.Concat(row(5, 1), whole, row(7, 2)))
	agrees(t, make([]byte, 64))
	agrees(t, bytes.Repeat([]byte{0xff}, 64))
	agrees(t, bytes.Repeat([]byte{1, 0, 0, 0}, 16))
	// A body that is frames itself: Next finds them, Scan goes over them.
	agrees(t, slices.Concat(plain(whole), whole))
}

// P4.2: frames that stand behind other bytes.
func TestNextBehind(t *testing.T) {
	for k := range 40 {
		b := slices.Concat(row(k, k), plain([]byte("loom")), plain([]byte{0}))
		next(t, "P4.2", b, k, "loom", k+12, api.OK)
		next(t, "P4.2", b, k+12, "\x00", k+21, api.OK)
		next(t, "P4.2", b, k+21, "", 0, api.ErrEnd)
	}
}

// P4.3, P4.4: the chapter's own.
func TestScanKnown(t *testing.T) {
	b := append(sealed(t, sealed(t, nil, []byte("a")), []byte("bc")), 0)
	if got := scanned(frame.Scan(b)); !slices.Equal(got, []one{{0, "a"}, {9, "bc"}}) {
		t.Errorf("P4.3: %v", got)
	}
	if n := frame.Whole(b); n != 19 {
		t.Errorf("P4.4: %d", n)
	}
	if n := frame.Whole(nil); n != 0 {
		t.Errorf("P4.4: %d", n)
	}
}

// P4.3, P4.4: none, one and many frames, with torn or other bytes behind them.
func TestScanBehind(t *testing.T) {
	torn := plain(row(30, 11))
	turned := plain(row(30, 11))
	turned[20] ^= 4
	for _, sizes := range [][]int{nil, {1}, {api.MaxBody}, {3, 1, 70, 2}, {1, 1, 1, 1, 1, 1, 1, 1, 1}, {api.MaxBody, 1, api.MaxBody}} {
		b, all := many(t, sizes...)
		for _, behind := range [][]byte{nil, {0}, {0, 0, 0, 0}, torn[:1], torn[:7], torn[:8], torn[:9], torn[:37], turned, make([]byte, 50), bytes.Repeat([]byte{0xff}, 50), plain(nil), slices.Concat(turned, torn), slices.Concat([]byte{0}, torn)} {
			whole := slices.Concat(b, behind)
			if got := scanned(frame.Scan(whole)); !slices.Equal(got, all) {
				t.Errorf("P4.3: %v and %x: %d frames, not %d", sizes, behind, len(got), len(all))
			}
			if n := frame.Whole(whole); n != len(b) {
				t.Errorf("P4.4: %v and %x: %d, not %d", sizes, behind, n, len(b))
			}
		}
	}
}

// P4.3: a frame that is torn hides those behind it.
func TestScanStopsAtTorn(t *testing.T) {
	b, all := many(t, 5, 6, 7, 8)
	for i, f := range all {
		bad := slices.Clone(b)
		bad[f.at+8] ^= 1
		if got := scanned(frame.Scan(bad)); !slices.Equal(got, all[:i]) {
			t.Errorf("P4.3: frame %d turned: %v", i, got)
		}
		if n := frame.Whole(bad); n != f.at {
			t.Errorf("P4.4: frame %d turned: %d, not %d", i, n, f.at)
		}
	}
}

// P4.3, W1: a loop that stops is handed on nothing more; another one begins at the first frame.
func TestScanStopped(t *testing.T) {
	b, all := many(t, 4, 1, 9, 2, 3)
	it := frame.Scan(b)
	for stop := range len(all) + 1 {
		var got []one
		it(func(at int, body []byte) bool {
			got = append(got, one{at, string(body)})
			return len(got) <= stop
		})
		if want := all[:min(stop+1, len(all))]; !slices.Equal(got, want) {
			t.Errorf("W1: stopped behind %d: %v, not %v", stop, got, want)
		}
	}
	if got := scanned(it); !slices.Equal(got, all) {
		t.Errorf("P4.3: behind a stop: %v", got)
	}
}

// P4.3, W7: gone through twice, and by loops one inside another.
func TestScanAgain(t *testing.T) {
	b, all := many(t, 2, 6, 1, 40)
	it := frame.Scan(b)
	for range 3 {
		if got := scanned(it); !slices.Equal(got, all) {
			t.Errorf("P4.3: %v", got)
		}
	}
	var outer []one
	for at, body := range it {
		outer = append(outer, one{at, string(body)})
		if inner := scanned(it); !slices.Equal(inner, all) {
			t.Errorf("W7: the inner loop: %v", inner)
		}
	}
	if !slices.Equal(outer, all) {
		t.Errorf("W7: the outer loop: %v", outer)
	}
}

// P4.3: the bytes are those of the call, whatever becomes of them behind it, inside the loop too.
func TestScanBytesOfTheCall(t *testing.T) {
	b, all := many(t, 3, 5, 200, 1)
	was := slices.Clone(b)
	it := frame.Scan(b)
	clear(b)
	for range 2 {
		if got := scanned(it); !slices.Equal(got, all) {
			t.Errorf("P4.3: changed behind the call: %v", got)
		}
	}
	copy(b, was)
	it = frame.Scan(b)
	var got []one
	for at, body := range it {
		got = append(got, one{at, string(body)})
		clear(b)
	}
	if !slices.Equal(got, all) {
		t.Errorf("P4.3: changed inside the loop: %v", got)
	}
	// What had no frame at the call has none when there are some.
	none := make([]byte, len(was))
	it = frame.Scan(none)
	copy(none, was)
	if got := scanned(it); len(got) != 0 {
		t.Errorf("P4.3: bytes of later: %v", got)
	}
	// Nor is there more when the row is led on in its spare room.
	room := append(make([]byte, 0, 100), plain([]byte("x"))...)
	it = frame.Scan(room)
	_ = append(room, plain([]byte("y"))...)
	if got := scanned(it); !slices.Equal(got, []one{{0, "x"}}) {
		t.Errorf("P4.3: spare room: %v", got)
	}
}

// P4.3, W1: bytes without a frame hand on nothing, and the iterator is never nil.
func TestScanNone(t *testing.T) {
	for _, b := range [][]byte{nil, {}, {0}, make([]byte, 4), make([]byte, 100), row(50, 1)} {
		it := frame.Scan(b)
		if it == nil {
			t.Fatal("P4.3: no iterator")
		}
		if got := scanned(it); len(got) != 0 {
			t.Errorf("P4.3: %v", got)
		}
		if n := frame.Whole(b); n != 0 {
			t.Errorf("P4.4: %d", n)
		}
	}
}

// P4.5: what Seal lays behind dst is what Next finds there.
func TestSealThenNext(t *testing.T) {
	for _, k := range []int{0, 1, 8, 100} {
		for _, n := range []int{1, 2, 8, 100, api.MaxBody - 1, api.MaxBody} {
			body := row(n, k)
			b := sealed(t, row(k, n), body)
			next(t, "P4.5", b, k, string(body), len(b), api.OK)
			if len(b) != k+8+n {
				t.Errorf("P4.5: %d behind %d is %d", n, k, len(b))
			}
		}
	}
}

// P4.5: frames and whatever behind them, also further frames: Whole is at least the frames, at most all, and settled.
func TestWholeBounds(t *testing.T) {
	r := rand.New(rand.NewSource(4))
	for range 400 {
		sizes := make([]int, r.Intn(6))
		for i := range sizes {
			sizes[i] = 1 + r.Intn(40)
		}
		b, all := many(t, sizes...)
		if n := frame.Whole(b); n != len(b) {
			t.Errorf("P4.5: %v: %d, not %d", sizes, n, len(b))
		}
		behind := row(r.Intn(30), r.Int())
		if r.Intn(2) == 0 {
			behind = slices.Concat(plain(row(1+r.Intn(9), 1)), behind)
		}
		whole := slices.Concat(b, behind)
		n := frame.Whole(whole)
		if n < len(b) || n > len(whole) {
			t.Errorf("P4.5: %d, of %d in %d", n, len(b), len(whole))
		}
		if again := frame.Whole(whole[:n]); again != n {
			t.Errorf("P4.5: %d, then %d", n, again)
		}
		if got := scanned(frame.Scan(whole)); !slices.Equal(got[:min(len(got), len(all))], all) {
			t.Errorf("P4.5: %v, not at first %v", got, all)
		}
	}
}

// P4.5: each beginning of a row of frames: Whole is the frames that are all in it.
func TestWholeOfBeginnings(t *testing.T) {
	b, all := many(t, 1, 20, 3, 9, 2)
	for i := range len(b) + 1 {
		want := 0
		for _, f := range all {
			if end := f.at + 8 + len(f.body); end <= i {
				want = end
			}
		}
		if n := frame.Whole(b[:i]); n != want {
			t.Errorf("P4.5: of %d bytes %d, not %d", i, n, want)
		}
		if n := frame.Whole(b[:want]); n != want {
			t.Errorf("P4.5: of %d bytes %d", want, n)
		}
	}
}

// P4.6: a byte 0 four times at the beginning is no frame, whatever stands behind it, also the sum that would fit.
func TestFourZeros(t *testing.T) {
	for _, behind := range [][]byte{nil, {0}, make([]byte, 4), make([]byte, 5), make([]byte, 1000), plain([]byte("a")), bytes.Repeat([]byte{0xff}, 30), plain(nil)[4:], slices.Concat(plain(nil)[4:], plain([]byte("a"))), laid(0, []byte("a"))[4:]} {
		b := slices.Concat(make([]byte, 4), behind)
		next(t, "P4.6", b, 0, "", 0, api.ErrTorn)
		if got := scanned(frame.Scan(b)); len(got) != 0 || frame.Whole(b) != 0 {
			t.Errorf("P4.6: %x: %v", b, got)
		}
	}
}

// P4.6, W6: the body that Next hands on is new memory, its spare room too.
func TestNextNewMemory(t *testing.T) {
	for _, n := range []int{1, 5, 33, 1000} {
		room := slices.Concat(row(3, 1), plain(row(n, 2)), row(40, 3))
		was := slices.Clone(room)
		b := room[:3+8+n]
		first, _, _ := frame.Next(b, 3)
		second, _, _ := frame.Next(b, 3)
		clear(first[:cap(first)])
		if !bytes.Equal(room, was) {
			t.Errorf("P4.6: the body shares memory with what was handed in")
		}
		if !bytes.Equal(second, row(n, 2)) {
			t.Errorf("W6: two bodies share memory")
		}
		clear(room)
		if !bytes.Equal(second, row(n, 2)) {
			t.Errorf("P4.6: the body hangs on what was handed in")
		}
	}
}

// P4.6, W6: so are the bodies that Scan hands on, and changing one changes nothing that comes behind it.
func TestScanNewMemory(t *testing.T) {
	room, all := many(t, 1, 6, 33, 2)
	room = append(room, row(50, 1)...)
	was := slices.Clone(room)
	last := all[len(all)-1]
	it := frame.Scan(room[:last.at+8+len(last.body)])
	var bodies [][]byte
	for range 2 {
		i := 0
		for at, body := range it {
			if at != all[i].at || string(body) != all[i].body {
				t.Errorf("P4.6: %d %q, not %v", at, body, all[i])
			}
			bodies = append(bodies, body)
			clear(body[:cap(body)])
			i++
		}
		if i != len(all) {
			t.Errorf("P4.6: %d frames, not %d", i, len(all))
		}
	}
	if !bytes.Equal(room, was) {
		t.Errorf("P4.6: a body shares memory with what was handed in")
	}
	for i, body := range bodies {
		full := body[:cap(body)]
		for j := range full {
			full[j] = 0xee
		}
		for j, other := range bodies {
			if j != i && slices.Contains(other, 0xee) {
				t.Errorf("W6: the bodies %d and %d share memory", i, j)
			}
		}
		clear(full)
	}
}

// W6: Next, Scan and Whole leave what is handed in as it is, behind its end too.
func TestReadersChangeNothing(t *testing.T) {
	room, _ := many(t, 4, 9, 1)
	room = append(room, row(60, 2)...)
	was := slices.Clone(room)
	for n := range len(room) + 1 {
		b := room[:n]
		frame.Next(b, 0)
		frame.Next(b, n)
		frame.Whole(b)
		scanned(frame.Scan(b))
	}
	if !bytes.Equal(room, was) {
		t.Error("W6: what was handed in is changed")
	}
}

// W6: what was handed in is let go as soon as its owner lets it go, while the answers are still held.
func TestNotKept(t *testing.T) {
	type held struct {
		rows []weak.Pointer[[4096]byte]
		keep []any
	}
	told := make(chan held)
	// A goroutine of their own, so that no stack of this one holds them any more.
	go func() {
		var h held
		dst, body := new([4096]byte), new([4096]byte)
		b := new([4096]byte)
		copy(b[:], plain(row(4000, 1)))
		answer, _ := frame.Seal(dst[:], body[:])
		found, _, _ := frame.Next(b[:], 0)
		h.keep = append(h.keep, answer, found, frame.Scan(b[:]), frame.Whole(b[:]))
		h.rows = append(h.rows, weak.Make(dst), weak.Make(body), weak.Make(b))
		told <- h
	}()
	h := <-told
	for i, p := range h.rows {
		for range 10 {
			runtime.GC()
		}
		if p.Value() != nil {
			t.Errorf("W6: row %d is kept", i)
		}
	}
	runtime.KeepAlive(h.keep)
}

// P4.2 to P4.5: random rows of frames, some of them turned, cut or joined, held against the chapter's words.
func TestAgainstWords(t *testing.T) {
	r := rand.New(rand.NewSource(44))
	for range 1500 {
		var b []byte
		for range r.Intn(5) {
			switch r.Intn(6) {
			case 0:
				b = append(b, row(r.Intn(12), r.Int())...)
			case 1:
				b = append(b, laid(uint32(r.Intn(6)), row(r.Intn(6), r.Int()))...)
			default:
				b = append(b, plain(row(1+r.Intn(12), r.Int()))...)
			}
		}
		if len(b) > 0 && r.Intn(3) == 0 {
			b[r.Intn(len(b))] ^= 1 << r.Intn(8)
		}
		if r.Intn(3) == 0 {
			b = b[:r.Intn(len(b)+1)]
		}
		agrees(t, b)
	}
}

// W2: the same is answered, however often and whoever asks.
func TestSameAnswer(t *testing.T) {
	b, all := many(t, 10, 200, 3)
	it := frame.Scan(b)
	var wait sync.WaitGroup
	for range 8 {
		wait.Go(func() {
			for range 20 {
				if got := scanned(it); !slices.Equal(got, all) {
					t.Errorf("W2: %v", got)
				}
				next(t, "W2", b, 0, all[0].body, 18, api.OK)
				if n := frame.Whole(b); n != len(b) {
					t.Errorf("W2: %d", n)
				}
			}
		})
	}
	wait.Wait()
}

// P4.2: any bytes at any place.
func FuzzNext(f *testing.F) {
	f.Add([]byte{}, 0)
	f.Add(plain([]byte("a")), 0)
	f.Add(slices.Concat([]byte{9}, plain([]byte("a")), plain(nil)), 1)
	f.Fuzz(func(t *testing.T, b []byte, at int) {
		body, end, e := slowNext(b, at)
		next(t, "P4.2", b, at, string(body), end, e)
		all, whole := slowScan(b)
		if got := scanned(frame.Scan(b)); !slices.Equal(got, all) || frame.Whole(b) != whole {
			t.Errorf("P4.3, P4.4: %x", b)
		}
	})
}
