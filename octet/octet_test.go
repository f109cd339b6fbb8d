package octet_test

import (
	"bytes"
	"fmt"
	"math"
	"math/big"
	"slices"
	"strings"
	"testing"

	"treadle/api"
	"treadle/octet"
)

// call is one form, laid and taken by the calls of the same name.
type call struct {
	kind string
	u    uint64 // of Byte and Fixed
	n    int    // of Fixed how many bytes, of Number the number
	i    int64  // of Int
	s    string // of Text
}

// String leaves out a text's bytes: some are thousands.
func (c call) String() string {
	return fmt.Sprintf("%s u %d n %d i %d, %d bytes", c.kind, c.u, c.n, c.i, len(c.s))
}

func (c call) lay(w *octet.Writer) {
	switch c.kind {
	case "byte":
		w.Byte(byte(c.u))
	case "fixed":
		w.Fixed(c.u, c.n)
	case "number":
		w.Number(c.n)
	case "int":
		w.Int(c.i)
	case "text":
		w.Text(c.s)
	}
}

// take is what a Reader says to the call that c was laid by, as such a call.
func (c call) take(r *octet.Reader) call {
	switch c.kind {
	case "byte":
		c.u = uint64(r.Byte())
	case "fixed":
		c.u = r.Fixed(c.n)
	case "number":
		c.n = r.Number()
	case "int":
		c.i = r.Int()
	case "text":
		c.s = r.Text(len(c.s))
	}
	return c
}

// row is the row of sevens, reckoned by division of great numbers.
func row(u *big.Int) []byte {
	var out []byte
	base := big.NewInt(128)
	rest := new(big.Int).Set(u)
	for {
		group := new(big.Int)
		rest.DivMod(rest, base, group)
		if rest.Sign() == 0 {
			return append(out, byte(group.Int64()))
		}
		out = append(out, byte(group.Int64()+128))
	}
}

// folded is the number whose row an integer has.
func folded(v int64) *big.Int {
	u := big.NewInt(v)
	if v >= 0 {
		return u.Mul(u, big.NewInt(2))
	}
	u.Mul(u, big.NewInt(-2))
	return u.Sub(u, big.NewInt(1))
}

// numbers is each power of two with what stands next to it: all edges of groups and of 64 digits.
func numbers() []int {
	out := []int{0, math.MaxInt, math.MaxInt - 1}
	for i := range 63 {
		out = append(out, 1<<i-1, 1<<i, 1<<i+1)
	}
	slices.Sort(out)
	return slices.Compact(out)
}

func integers() []int64 {
	out := []int64{math.MinInt64, math.MinInt64 + 1}
	for _, v := range numbers() {
		out = append(out, int64(v), -int64(v))
	}
	slices.Sort(out)
	return slices.Compact(out)
}

func texts() []string {
	out := []string{"", "keel", "\x00\xff\x80", "\xc3\x28 ä"}
	for _, n := range []int{1, 127, 128, 129, 16383, 16384} {
		out = append(out, strings.Repeat("\xfe", n))
	}
	return out
}

// calls is every form at all its edges.
func calls() []call {
	var out []call
	for _, v := range []uint64{0, 1, 127, 128, 255} {
		out = append(out, call{kind: "byte", u: v})
	}
	for n := range 9 {
		for _, v := range []uint64{0, 1, 0x0102030405060708, math.MaxUint64, 1 << 63} {
			out = append(out, call{kind: "fixed", u: v & lowest(n), n: n})
		}
	}
	for _, v := range numbers() {
		out = append(out, call{kind: "number", n: v})
	}
	for _, v := range integers() {
		out = append(out, call{kind: "int", i: v})
	}
	for _, s := range texts() {
		out = append(out, call{kind: "text", s: s})
	}
	return out
}

// lowest is a mask of the n lowest bytes.
func lowest(n int) uint64 {
	if n == 8 {
		return math.MaxUint64
	}
	return 1<<(8*n) - 1
}

func laid(cs ...call) []byte {
	w := &octet.Writer{}
	for _, c := range cs {
		c.lay(w)
	}
	return w.Data()
}

// stopped holds what a Reader says of itself against what it should say.
func stopped(t *testing.T, what string, r *octet.Reader, e api.Errno, at, left int, end api.Errno) {
	t.Helper()
	gotErr, gotAt := r.Err()
	if gotErr != e || gotAt != at || r.Left() != left || r.End() != end {
		t.Errorf("%s: Err %d %d, Left %d, End %d; want %d %d, %d, %d", what, gotErr, gotAt, r.Left(), r.End(), e, at, left, end)
	}
}

// takesNothing asks all calls that take, and holds that each answers zero.
func takesNothing(t *testing.T, what string, r *octet.Reader) {
	t.Helper()
	if b := r.Byte(); b != 0 {
		t.Errorf("%s: Byte %d", what, b)
	}
	for _, n := range []int{-1, 0, 1, 8, 9} {
		if v := r.Fixed(n); v != 0 {
			t.Errorf("%s: Fixed(%d) %d", what, n, v)
		}
	}
	if v := r.Number(); v != 0 {
		t.Errorf("%s: Number %d", what, v)
	}
	if v := r.Int(); v != 0 {
		t.Errorf("%s: Int %d", what, v)
	}
	for _, most := range []int{math.MinInt, 0, math.MaxInt} {
		if s := r.Text(most); s != "" {
			t.Errorf("%s: Text(%d) %q", what, most, s)
		}
	}
}

// P1.1: a zero Writer has nothing, and Byte and Fixed lay the lowest bytes, the lowest first.
func TestWriterLaysBytesAndFixed(t *testing.T) {
	var zero octet.Writer
	if len(zero.Data()) != 0 || zero.Err() != api.OK {
		t.Errorf("a zero Writer: %x, %d", zero.Data(), zero.Err())
	}
	for v := range 256 {
		if got := laid(call{kind: "byte", u: uint64(v)}); !bytes.Equal(got, []byte{byte(v)}) {
			t.Errorf("Byte(%d): %x", v, got)
		}
	}
	all := []byte{8, 7, 6, 5, 4, 3, 2, 0xf1}
	for n := range 9 {
		w := &octet.Writer{}
		w.Fixed(0xf102030405060708, n)
		if !bytes.Equal(w.Data(), all[:n]) || w.Err() != api.OK {
			t.Errorf("Fixed of %d bytes: %x, %d", n, w.Data(), w.Err())
		}
	}
}

// P1.1: rows of sevens, held against division by 128.
func TestWriterLaysRows(t *testing.T) {
	for _, v := range numbers() {
		if got, want := laid(call{kind: "number", n: v}), row(big.NewInt(int64(v))); !bytes.Equal(got, want) {
			t.Errorf("Number(%d): %x, want %x", v, got, want)
		}
	}
	for _, v := range integers() {
		if got, want := laid(call{kind: "int", i: v}), row(folded(v)); !bytes.Equal(got, want) {
			t.Errorf("Int(%d): %x, want %x", v, got, want)
		}
	}
}

// P1.1: a text is its length and its bytes, whatever these are.
func TestWriterLaysTexts(t *testing.T) {
	for _, s := range texts() {
		want := append(row(big.NewInt(int64(len(s)))), s...)
		if got := laid(call{kind: "text", s: s}); !bytes.Equal(got, want) {
			t.Errorf("Text of %d bytes: %x", len(s), got)
		}
	}
}

// P1.1: things stand one behind the other, in the order of the calls.
func TestWriterLaysOneBehindTheOther(t *testing.T) {
	var want []byte
	w := &octet.Writer{}
	for _, c := range calls() {
		want = append(want, laid(c)...)
		c.lay(w)
		if !bytes.Equal(w.Data(), want) {
			t.Fatalf("behind %v: not what the calls lay one by one", c)
		}
	}
}

// P1.1: what is refused lays nothing, nor does any call behind it, and the first error stays.
func TestWriterStopsAtTheFirstError(t *testing.T) {
	refused := []struct {
		lay  func(w *octet.Writer)
		want api.Errno
	}{
		{func(w *octet.Writer) { w.Fixed(1, 9) }, api.ErrArg},
		{func(w *octet.Writer) { w.Fixed(1, -1) }, api.ErrArg},
		{func(w *octet.Writer) { w.Fixed(0, math.MaxInt) }, api.ErrArg},
		{func(w *octet.Writer) { w.Fixed(0, math.MinInt) }, api.ErrArg},
		{func(w *octet.Writer) { w.Number(-1) }, api.ErrRange},
		{func(w *octet.Writer) { w.Number(math.MinInt) }, api.ErrRange},
	}
	for i, first := range refused {
		for j, second := range refused {
			w := &octet.Writer{}
			w.Text("ahead")
			ahead := w.Data()
			first.lay(w)
			if w.Err() != first.want || !bytes.Equal(w.Data(), ahead) {
				t.Errorf("%d: %x, %d", i, w.Data(), w.Err())
			}
			second.lay(w)
			for _, c := range calls() {
				c.lay(w)
			}
			if w.Err() != first.want || !bytes.Equal(w.Data(), ahead) {
				t.Errorf("%d, then %d: %x, %d", i, j, w.Data(), w.Err())
			}
		}
	}
}

// P1.2: Fixed at its edges: n of 0, 8, 9 and below 0, ErrArg ahead of ErrShort.
func TestReaderTakesFixed(t *testing.T) {
	b := []byte{1, 2, 3, 4, 5, 6, 7, 0xf8, 9}
	for _, x := range []struct {
		n    int
		want uint64
	}{{0, 0}, {1, 1}, {2, 0x0201}, {3, 0x030201}, {7, 0x07060504030201}, {8, 0xf807060504030201}} {
		r := octet.Read(b)
		if got := r.Fixed(x.n); got != x.want {
			t.Errorf("Fixed(%d): %x, want %x", x.n, got, x.want)
		}
		stopped(t, "Fixed", r, api.OK, 0, 9-x.n, api.ErrForm)
	}
	for _, x := range []struct {
		have, n int
		want    api.Errno
	}{
		{9, 9, api.ErrArg}, {9, -1, api.ErrArg}, {9, math.MaxInt, api.ErrArg}, {9, math.MinInt, api.ErrArg},
		{0, 9, api.ErrArg}, {0, -1, api.ErrArg}, {0, 1, api.ErrShort}, {7, 8, api.ErrShort}, {2, 3, api.ErrShort},
	} {
		r := octet.Read(b[:x.have])
		if got := r.Fixed(x.n); got != 0 {
			t.Errorf("Fixed(%d) of %d bytes: %x", x.n, x.have, got)
		}
		stopped(t, "Fixed refused", r, x.want, 0, x.have, x.want)
	}
	r := octet.Read(nil)
	if r.Fixed(0) != 0 {
		t.Error("Fixed(0) of nothing")
	}
	stopped(t, "Fixed(0) of nothing", r, api.OK, 0, 0, api.OK)
}

// rowOf is n bytes with the highest digit set, and others behind them.
func rowOf(n int, behind ...byte) []byte {
	return append(bytes.Repeat([]byte{0xff}, n), behind...)
}

// P1.2: what a row must not be, and in which order that is found.
func TestReaderRefusesRows(t *testing.T) {
	const ok, short, ranged, formed = api.OK, api.ErrShort, api.ErrRange, api.ErrForm
	for _, x := range []struct {
		b           []byte
		number, int api.Errno
	}{
		{nil, short, short},
		{[]byte{0}, ok, ok},
		{[]byte{0x80}, short, short},
		{[]byte{0x80, 0}, formed, formed},
		{[]byte{0x80, 0x80}, short, short},
		{[]byte{0x80, 0x80, 0}, formed, formed},
		{[]byte{0x80, 0x80, 1}, ok, ok},
		{rowOf(7, 0), formed, formed},
		{rowOf(8), short, short},
		{rowOf(8, 0), formed, formed},
		{rowOf(8, 1), ok, ok},
		{rowOf(8, 0x7f), ok, ok},
		{rowOf(8, 0x80), ranged, short},
		{rowOf(9), ranged, short},
		{rowOf(9, 0), ranged, formed},
		{rowOf(9, 1), ranged, ok},
		{rowOf(9, 2), ranged, ranged},
		{rowOf(9, 0x7f), ranged, ranged},
		{rowOf(9, 0x80), ranged, ranged},
		{rowOf(9, 0x81), ranged, ranged},
		{rowOf(9, 0x80, 0), ranged, ranged},
		{rowOf(10, 1), ranged, ranged},
		{rowOf(50), ranged, ranged},
		{bytes.Repeat([]byte{0x80}, 8), short, short},
		{bytes.Repeat([]byte{0x80}, 9), ranged, short},
		{bytes.Repeat([]byte{0x80}, 10), ranged, ranged},
	} {
		r := octet.Read(x.b)
		n := r.Number()
		refusal(t, "Number", r, x.b, n == 0, x.number)
		r = octet.Read(x.b)
		i := r.Int()
		refusal(t, "Int", r, x.b, i == 0, x.int)
		r = octet.Read(x.b)
		if s := r.Text(math.MaxInt); x.number != ok {
			refusal(t, "Text", r, x.b, s == "", x.number)
		}
	}
}

// refusal holds a Reader behind one call against the error that it should have stopped with.
func refusal(t *testing.T, what string, r *octet.Reader, b []byte, zero bool, want api.Errno) {
	t.Helper()
	if want == api.OK {
		stopped(t, what, r, api.OK, 0, 0, api.OK)
		return
	}
	if !zero {
		t.Errorf("%s of %x: refused, and not zero", what, b)
	}
	stopped(t, what, r, want, 0, len(b), want)
}

// P1.2: the numbers at the ends of 64 binary digits.
func TestReaderTakesTheEnds(t *testing.T) {
	if got := octet.Read(rowOf(8, 0x7f)).Number(); got != math.MaxInt {
		t.Errorf("Number: %d", got)
	}
	if got := octet.Read(rowOf(9, 1)).Int(); got != math.MinInt64 {
		t.Errorf("Int: %d", got)
	}
	if got := octet.Read(append([]byte{0xfe}, rowOf(8, 1)...)).Int(); got != math.MaxInt64 {
		t.Errorf("Int: %d", got)
	}
	if got := octet.Read(rowOf(8, 0x7f)).Int(); got != -1<<62 {
		t.Errorf("Int of nine bytes: %d", got)
	}
}

// P1.2: a text's limits: ErrLong ahead of ErrShort, a most below 0 counted as 0, lengths beyond all bytes.
func TestReaderTakesTexts(t *testing.T) {
	keel := []byte{4, 'k', 'e', 'e', 'l', 9}
	huge := append(rowOf(8, 0x7f), 'x')
	for i, x := range []struct {
		b    []byte
		most int
		want string
		e    api.Errno
	}{
		{keel, 4, "keel", api.OK},
		{keel, math.MaxInt, "keel", api.OK},
		{keel, 3, "", api.ErrLong},
		{keel, 0, "", api.ErrLong},
		{keel, -1, "", api.ErrLong},
		{keel, math.MinInt, "", api.ErrLong},
		{keel[:4], 3, "", api.ErrLong},
		{keel[:4], 4, "", api.ErrShort},
		{keel[:1], 4, "", api.ErrShort},
		{[]byte{0}, 0, "", api.OK},
		{[]byte{0}, -1, "", api.OK},
		{[]byte{0}, math.MinInt, "", api.OK},
		{huge, math.MaxInt, "", api.ErrShort},
		{huge, math.MaxInt - 1, "", api.ErrLong},
		{[]byte{0x81, 0}, 5, "", api.ErrForm},
	} {
		r := octet.Read(x.b)
		if got := r.Text(x.most); got != x.want {
			t.Errorf("%d: %q, want %q", i, got, x.want)
		}
		if x.e != api.OK {
			stopped(t, "Text refused", r, x.e, 0, len(x.b), x.e)
		} else if r.Left() != len(x.b)-1-len(x.want) {
			t.Errorf("%d: Left %d", i, r.Left())
		}
	}
}

// P1.2: behind the first thing that cannot be taken nothing is, not even what stands there whole.
func TestReaderTakesNothingBehindAnError(t *testing.T) {
	b := []byte{7, 5, 'k', 1, 1, 1, 1, 1, 1, 1, 1, 1}
	for i, x := range []struct {
		stop func(r *octet.Reader)
		want api.Errno
	}{
		{func(r *octet.Reader) { r.Fixed(9) }, api.ErrArg},
		{func(r *octet.Reader) { r.Fixed(-1) }, api.ErrArg},
		{func(r *octet.Reader) { r.Text(4) }, api.ErrLong},
	} {
		r := octet.Read(b)
		if r.Byte() != 7 {
			t.Errorf("%d: the first byte", i)
		}
		x.stop(r)
		for range 2 {
			takesNothing(t, "behind an error", r)
			stopped(t, "behind an error", r, x.want, 1, len(b)-1, x.want)
		}
	}
}

// P1.2: a zero Reader is Read of nothing, and Read of nil is Read of no bytes.
func TestZeroReader(t *testing.T) {
	for i, fresh := range []func() *octet.Reader{
		func() *octet.Reader { return &octet.Reader{} },
		func() *octet.Reader { return octet.Read(nil) },
		func() *octet.Reader { return octet.Read([]byte{}) },
	} {
		stopped(t, "a zero Reader", fresh(), api.OK, 0, 0, api.OK)
		for j, take := range []func(r *octet.Reader){
			func(r *octet.Reader) { r.Byte() },
			func(r *octet.Reader) { r.Fixed(1) },
			func(r *octet.Reader) { r.Number() },
			func(r *octet.Reader) { r.Int() },
			func(r *octet.Reader) { r.Text(0) },
		} {
			r := fresh()
			take(r)
			stopped(t, "taken from nothing", r, api.ErrShort, 0, 0, api.ErrShort)
			takesNothing(t, "behind that", r)
			if t.Failed() {
				t.Fatal(i, j)
			}
		}
	}
}

// P1.3: the place and what is left, thing by thing, and where each kind of thing stops.
func TestReaderTellsItsPlace(t *testing.T) {
	b := []byte{7, 0x34, 0x12, 0xac, 2, 3, 2, 'o', 'k', 0x80, 1, 'x'}
	r := octet.Read(b)
	for i, x := range []struct {
		take       func() int
		want, left int
	}{
		{func() int { return int(r.Byte()) }, 7, 11},
		{func() int { return int(r.Fixed(2)) }, 0x1234, 9},
		{r.Number, 300, 7},
		{func() int { return int(r.Int()) }, -2, 6},
		{func() int { return len(r.Text(2)) }, 2, 3},
	} {
		if got := x.take(); got != x.want || r.Left() != x.left {
			t.Errorf("%d: %d, Left %d; want %d, %d", i, got, r.Left(), x.want, x.left)
		}
	}
	stopped(t, "so far", r, api.OK, 0, 3, api.ErrForm)
	if r.Text(128) != "" {
		t.Error("a text that is not all there")
	}
	stopped(t, "a text, where its length begins", r, api.ErrShort, 9, 3, api.ErrShort)
	for i, x := range []struct {
		b    []byte
		take func(r *octet.Reader)
		e    api.Errno
		at   int
		left int
	}{
		{[]byte{1}, func(r *octet.Reader) { r.Byte(); r.Byte() }, api.ErrShort, 1, 0},
		{[]byte{1, 2}, func(r *octet.Reader) { r.Byte(); r.Fixed(2) }, api.ErrShort, 1, 1},
		{[]byte{1, 2}, func(r *octet.Reader) { r.Fixed(2); r.Fixed(9) }, api.ErrArg, 2, 0},
		{[]byte{1, 0x80}, func(r *octet.Reader) { r.Byte(); r.Number() }, api.ErrShort, 1, 1},
		{[]byte{1, 0x80, 0, 4}, func(r *octet.Reader) { r.Byte(); r.Int() }, api.ErrForm, 1, 3},
		{rowOf(10), func(r *octet.Reader) { r.Byte(); r.Number() }, api.ErrRange, 1, 9},
		{[]byte{1, 3, 'a', 'b'}, func(r *octet.Reader) { r.Byte(); r.Text(2) }, api.ErrLong, 1, 3},
	} {
		r := octet.Read(x.b)
		x.take(r)
		stopped(t, "a place", r, x.e, x.at, x.left, x.e)
		if t.Failed() {
			t.Fatal(i)
		}
	}
}

// P1.3: how much is left behind each thing, till all is taken.
func TestReaderTellsWhatIsLeft(t *testing.T) {
	all := laid(calls()...)
	r := octet.Read(all)
	left := len(all)
	for _, c := range calls() {
		c.take(r)
		left -= len(laid(c))
		if r.Left() != left {
			t.Fatalf("behind %v: Left %d, want %d", c, r.Left(), left)
		}
		if (r.End() == api.OK) != (left == 0) {
			t.Fatalf("behind %v: End %d with %d left", c, r.End(), left)
		}
	}
}

// P1.4: nil Writers and Readers; calls on them change nothing and never panic.
func TestNil(t *testing.T) {
	var w *octet.Writer
	for range 2 {
		if w.Err() != api.ErrArg || len(w.Data()) != 0 {
			t.Errorf("a nil Writer: %d, %x", w.Err(), w.Data())
		}
		for _, c := range append(calls(), call{kind: "fixed", n: 9}, call{kind: "number", n: -1}) {
			c.lay(w)
		}
	}
	var r *octet.Reader
	for range 2 {
		stopped(t, "a nil Reader", r, api.ErrArg, 0, 0, api.ErrArg)
		takesNothing(t, "a nil Reader", r)
	}
}

// P1.5: what is laid is taken again, each thing alone.
func TestLaidIsTakenAgain(t *testing.T) {
	for _, c := range calls() {
		r := octet.Read(laid(c))
		if got := c.take(r); got != c {
			t.Errorf("laid %v, taken %v", c, got)
		}
		stopped(t, c.kind, r, api.OK, 0, 0, api.OK)
	}
	w := &octet.Writer{}
	w.Fixed(math.MaxUint64, 3)
	if got := octet.Read(w.Data()).Fixed(3); got != 0xffffff {
		t.Errorf("of the lowest bytes: %x", got)
	}
}

// P1.5: and so are rows of things, in whatever order they stand.
func TestRowsOfThingsAreTakenAgain(t *testing.T) {
	all := calls()
	for step := 1; step < 40; step++ {
		var cs []call
		for i := range 60 {
			cs = append(cs, all[(i*i*step+7*step)%len(all)])
		}
		r := octet.Read(laid(cs...))
		for _, c := range cs {
			if got := c.take(r); got != c {
				t.Fatalf("laid %v, taken %v", c, got)
			}
		}
		stopped(t, "things in a row", r, api.OK, 0, 0, api.OK)
	}
}

// P1.5: a Writer's calls as a list of method values, one behind the other.
func TestLayingByMethodValues(t *testing.T) {
	w := &octet.Writer{}
	for i, lay := range []func(int){w.Number, w.Number, w.Number} {
		lay(100 * (i + 1))
	}
	for _, lay := range []func(string){w.Text, w.Text} {
		lay("keel")
	}
	r := octet.Read(w.Data())
	if r.Number() != 100 || r.Number() != 200 || r.Number() != 300 || r.Text(4) != "keel" || r.Text(4) != "keel" || r.End() != api.OK {
		t.Errorf("%x", w.Data())
	}
}

// samples is rows of bytes about which nothing is known: all short ones of telling bytes, and those at a long row's end.
func samples() [][]byte {
	telling := []byte{0, 1, 2, 0x7f, 0x80, 0x81, 0xff}
	out := [][]byte{nil}
	for from := 0; len(out) < 2800; from++ {
		for _, c := range telling {
			out = append(out, append(slices.Clone(out[from]), c))
		}
	}
	for n := 6; n < 12; n++ {
		for _, lead := range []byte{0x80, 0x81, 0xff} {
			for c := range 256 {
				out = append(out, append(bytes.Repeat([]byte{lead}, n), byte(c), 0))
			}
		}
	}
	return out
}

// P1.5: what a Reader takes without stopping, laid again, is the bytes that were taken: there is one form.
func TestTakenIsLaidAgain(t *testing.T) {
	for _, b := range samples() {
		for _, first := range []string{"byte", "fixed", "number", "int", "text"} {
			for _, second := range []string{"byte", "fixed", "number", "int", "text"} {
				r := octet.Read(b)
				var cs []call
				for _, kind := range []string{first, second} {
					c := take(r, kind)
					if e, _ := r.Err(); e == api.OK {
						cs = append(cs, c)
					}
				}
				taken := b[:len(b)-r.Left()]
				if got := laid(cs...); !bytes.Equal(got, taken) {
					t.Fatalf("%x: %s and %s took %x, which is laid as %x", b, first, second, taken, got)
				}
			}
		}
	}
}

// take is what stands at a Reader's place, as a call of that kind.
func take(r *octet.Reader, kind string) call {
	c := call{kind: kind}
	switch kind {
	case "fixed":
		c.n = 3
	case "text":
		c.s = r.Text(4)
		return c
	}
	return c.take(r)
}

// P1.6: unlike numbers have unlike rows, none the beginning of another.
func TestRowsAreUnlike(t *testing.T) {
	ns, is := numbers(), integers()
	for i := range 40000 {
		ns = append(ns, i, i+1<<40)
		is = append(is, int64(i)-20000, int64(i)-1<<40)
	}
	slices.Sort(ns)
	slices.Sort(is)
	var ofNumbers, ofInts [][]byte
	for _, v := range slices.Compact(ns) {
		ofNumbers = append(ofNumbers, laid(call{kind: "number", n: v}))
	}
	for _, v := range slices.Compact(is) {
		ofInts = append(ofInts, laid(call{kind: "int", i: v}))
	}
	for _, rows := range [][][]byte{ofNumbers, ofInts} {
		// In order, a row that begins others stands right ahead of one of them.
		slices.SortFunc(rows, bytes.Compare)
		for i, b := range rows[1:] {
			if bytes.HasPrefix(b, rows[i]) {
				t.Fatalf("%x is the beginning of %x", rows[i], b)
			}
		}
	}
}

// P1.7: the bytes that are read are neither changed nor kept, their spare room neither.
func TestReadKeepsACopy(t *testing.T) {
	room := laid(call{kind: "number", n: 300}, call{kind: "text", s: "keel"}, call{kind: "byte", u: 9})
	before := slices.Clone(room)
	r := octet.Read(room[:7])
	if r.Number() != 300 {
		t.Error("a number")
	}
	if !bytes.Equal(room, before) {
		t.Errorf("changed to %x", room)
	}
	for i := range room {
		room[i] = 0xee
	}
	text := r.Text(4)
	stopped(t, "a copy", r, api.OK, 0, 0, api.OK)
	for i := range room {
		room[i] = 0xdd
	}
	if text != "keel" {
		t.Errorf("kept %q", text)
	}
}

// P1.7: Data is new memory each time, its spare room too.
func TestDataIsNewMemory(t *testing.T) {
	w := &octet.Writer{}
	w.Text("keel")
	first, second := w.Data(), w.Data()
	for i := range first[:cap(first)] {
		first[:cap(first)][i] = 0xee
	}
	if want := []byte("\x04keel"); !bytes.Equal(second, want) || !bytes.Equal(w.Data(), want) {
		t.Errorf("%x, %x", second, w.Data())
	}
	w.Byte(1)
	_ = append(second, 2)
	if want := []byte("\x04keel\x01"); !bytes.Equal(w.Data(), want) {
		t.Errorf("%x", w.Data())
	}
	if len(second) != 5 || second[4] != 'l' {
		t.Errorf("%x", second)
	}
	third := w.Data()
	w.Number(-1)
	third[0] = 0xee
	if want := []byte("\x04keel\x01"); !bytes.Equal(w.Data(), want) {
		t.Errorf("behind an error: %x", w.Data())
	}
}
