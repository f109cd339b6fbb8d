package datum_test

import (
	"bytes"
	"encoding/hex"
	"math"
	"math/rand"
	"runtime"
	"slices"
	"strings"
	"testing"
	"unsafe"
	"weak"

	"treadle/api"
	"treadle/datum"
)

func unhex(s string) []byte {
	b, err := hex.DecodeString(strings.ReplaceAll(s, " ", ""))
	if err != nil {
		panic(err)
	}
	return b
}

// slowRow is a row of sevens read as chapter 1 says, its number and its length; one of an Int may have ten bytes.
func slowRow(b []byte, ofInt bool) (uint64, int, api.Errno) {
	var u uint64
	for i := 0; ; i++ {
		if i == len(b) {
			return 0, 0, api.ErrShort
		}
		c := b[i]
		if !ofInt && i == 8 && c >= 128 || ofInt && i == 9 && c > 1 {
			return 0, 0, api.ErrRange
		}
		u += uint64(c%128) << (7 * i)
		if c >= 128 {
			continue
		}
		if i > 0 && c == 0 {
			return 0, 0, api.ErrForm
		}
		return u, i + 1, api.OK
	}
}

// slowDecode is Decode as the chapter says it.
func slowDecode(b []byte) (api.Value, api.Errno) {
	if len(b) == 0 {
		return nothing, api.ErrShort
	}
	v, rest := api.Value{Kind: int(b[0])}, b[1:]
	switch b[0] {
	case 0:
	case 1:
		u, n, e := slowRow(rest, true)
		if e != api.OK {
			return nothing, e
		}
		v.Int, rest = int64(u/2), rest[n:]
		if u%2 == 1 {
			v.Int = -v.Int - 1
		}
	case 2:
		u, n, e := slowRow(rest, false)
		switch rest = rest[n:]; {
		case e != api.OK:
			return nothing, e
		case u > 256:
			return nothing, api.ErrLong
		case u > uint64(len(rest)):
			return nothing, api.ErrShort
		}
		v.Text, rest = string(rest[:u]), rest[u:]
	default:
		return nothing, api.ErrForm
	}
	if len(rest) > 0 {
		return nothing, api.ErrForm
	}
	return v, api.OK
}

// slowEncode is the bytes of a value as the chapter says them.
func slowEncode(v api.Value) []byte {
	out := []byte{byte(v.Kind)}
	lay := func(u uint64) {
		for ; u >= 128; u /= 128 {
			out = append(out, byte(u%128+128))
		}
		out = append(out, byte(u))
	}
	switch {
	case v.Kind == 1 && v.Int >= 0:
		lay(2 * uint64(v.Int))
	case v.Kind == 1:
		lay(2*uint64(-(v.Int+1)) + 1)
	case v.Kind == 2:
		lay(uint64(len(v.Text)))
		out = append(out, v.Text...)
	}
	return out
}

// decoded asks Decode, and holds its answer against what is wanted.
func decoded(t *testing.T, b []byte, want api.Value, err api.Errno) {
	t.Helper()
	if v, e := datum.Decode(b); v != want || e != err {
		t.Errorf("P5.7: Decode(%x): %s, %v, not %s, %v", b[:min(len(b), 40)], told(v), e, told(want), err)
	}
}

// agrees holds Decode against the chapter's words; what it takes is what Encode says of it.
func agrees(t *testing.T, b []byte) {
	t.Helper()
	want, err := slowDecode(b)
	decoded(t, b, want, err)
	if err != api.OK {
		return
	}
	if again, e := datum.Encode(want); e != api.OK || !bytes.Equal(again, b) {
		t.Errorf("P5.10: %x comes back as %x, %v", b, again, e)
	}
}

// encoded is the bytes of a value.
func encoded(t *testing.T, v api.Value) []byte {
	t.Helper()
	b, e := datum.Encode(v)
	if e != api.OK {
		t.Fatalf("P5.7: Encode(%s): %v", told(v), e)
	}
	return b
}

// P5.7: the chapter's own.
func TestBytesKnown(t *testing.T) {
	for want, v := range map[string]api.Value{
		"00":                               nothing,
		"01 01":                            num(-1),
		"02 02 61 62":                      text("ab"),
		"01 00":                            num(0),
		"01 80 01":                         num(64),
		"02 00":                            text(""),
		"01 ff ff ff ff ff ff ff ff ff 01": num(math.MinInt64),
		"01 fe ff ff ff ff ff ff ff ff 01": num(math.MaxInt64),
	} {
		if b := encoded(t, v); !bytes.Equal(b, unhex(want)) {
			t.Errorf("P5.7: %s is %x, not %s", told(v), b, want)
		}
		decoded(t, unhex(want), v, api.OK)
	}
	decoded(t, unhex("01 80 01"), num(64), api.OK)
	decoded(t, unhex("01 80 00"), nothing, api.ErrForm)
	decoded(t, unhex("03"), nothing, api.ErrForm)
	decoded(t, unhex("00 00"), nothing, api.ErrForm)
	decoded(t, unhex("02 01"), nothing, api.ErrShort)
	decoded(t, nil, nothing, api.ErrShort)
	decoded(t, []byte{}, nothing, api.ErrShort)
	b := encoded(t, text(long(256)))
	if !bytes.Equal(b, slices.Concat(unhex("02 80 02"), []byte(long(256)))) {
		t.Errorf("P5.7: %x", b)
	}
}

// P5.7, W3: Encode refuses with the error of Check, and says nothing beside it.
func TestEncodeRefuses(t *testing.T) {
	for _, v := range others() {
		if b, e := datum.Encode(v); e != slowCheck(v) || len(b) != 0 {
			t.Errorf("P5.7: Encode(%s): %x, %v, not %v", told(v), b, e, slowCheck(v))
		}
	}
	for _, n := range []int{257, 258, 512, 1 << 20} {
		if b, e := datum.Encode(text(long(n))); e != api.ErrLong || len(b) != 0 {
			t.Errorf("P5.7: Encode of %d bytes: %d bytes, %v", n, len(b), e)
		}
	}
}

// P5.7: each shorter beginning of a value's bytes, and bytes behind a whole one.
func TestBeginningsAndRest(t *testing.T) {
	for _, v := range values() {
		b := encoded(t, v)
		if !bytes.Equal(b, slowEncode(v)) {
			t.Errorf("P5.7: %s is %x", told(v), b)
		}
		for i := range b {
			decoded(t, b[:i], nothing, api.ErrShort)
		}
		decoded(t, b, v, api.OK)
		for c := range 256 {
			decoded(t, append(slices.Clone(b), byte(c)), nothing, api.ErrForm)
		}
		decoded(t, slices.Concat(b, b), nothing, api.ErrForm)
		decoded(t, slices.Concat(b, make([]byte, 1000)), nothing, api.ErrForm)
	}
}

// P5.7: a first byte that is no kind, whatever stands behind it.
func TestDecodeKinds(t *testing.T) {
	for c := 3; c < 256; c++ {
		for _, rest := range [][]byte{nil, {0}, {0x80}, {1, 1}, {0x80, 0}, bytes.Repeat([]byte{0xff}, 20), make([]byte, 1000)} {
			decoded(t, append([]byte{byte(c)}, rest...), nothing, api.ErrForm)
		}
	}
}

// P5.7: texts about the limit and above it; too long comes ahead of too short, and both ahead of what is left.
func TestDecodeTexts(t *testing.T) {
	all := []byte(long(400))
	decoded(t, slices.Concat(unhex("02 80 02"), all[:256]), text(long(256)), api.OK)
	decoded(t, slices.Concat(unhex("02 81 02"), all[:257]), nothing, api.ErrLong)
	decoded(t, slices.Concat(unhex("02 81 02"), all[:300]), nothing, api.ErrLong)
	decoded(t, unhex("02 81 02"), nothing, api.ErrLong)
	decoded(t, unhex("02 ff ff ff ff ff ff ff ff 7f"), nothing, api.ErrLong)
	decoded(t, unhex("02 80 02"), nothing, api.ErrShort)
	decoded(t, slices.Concat(unhex("02 80 02"), all[:255]), nothing, api.ErrShort)
	decoded(t, slices.Concat(unhex("02 80 02"), all[:257]), nothing, api.ErrForm)
	decoded(t, unhex("02"), nothing, api.ErrShort)
	decoded(t, unhex("02 80"), nothing, api.ErrShort)
	decoded(t, unhex("02 00 00"), nothing, api.ErrForm)
	for n := range 300 {
		b := slices.Concat(slowEncode(text(long(n))), all[:n%3])
		for i := range b {
			agrees(t, b[:i])
		}
		agrees(t, b)
	}
}

// P5.7: numbers that are not in their shortest form, and such that are too great.
func TestDecodeNumbers(t *testing.T) {
	for s, want := range map[string]api.Errno{
		"01 80 00":                            api.ErrForm,
		"01 81 00":                            api.ErrForm,
		"01 80 80 00":                         api.ErrForm,
		"01 80 00 00":                         api.ErrForm,
		"01 80":                               api.ErrShort,
		"01":                                  api.ErrShort,
		"01 ff ff ff ff ff ff ff ff ff 00":    api.ErrForm,
		"01 ff ff ff ff ff ff ff ff ff 02":    api.ErrRange,
		"01 ff ff ff ff ff ff ff ff ff 80":    api.ErrRange,
		"01 ff ff ff ff ff ff ff ff ff ff 01": api.ErrRange,
		"01 ff ff ff ff ff ff ff ff ff":       api.ErrShort,
		"01 ff ff ff ff ff ff ff ff ff 01 00": api.ErrForm,
		"02 80 00":                            api.ErrForm,
		"02 81 00 61":                         api.ErrForm,
		"02 81 80 00 61":                      api.ErrForm,
		"02 ff ff ff ff ff ff ff ff 80":       api.ErrRange,
		"02 ff ff ff ff ff ff ff ff ff 01":    api.ErrRange,
		"02 ff ff ff ff ff ff ff ff 00":       api.ErrForm,
		"02 ff ff ff ff ff ff ff ff":          api.ErrShort,
	} {
		decoded(t, unhex(s), nothing, want)
	}
	// Each shortest form led on by a nought.
	for _, n := range integers() {
		b := slowEncode(num(n))
		b[len(b)-1] |= 0x80
		want := api.ErrForm
		if len(b) == 11 {
			want = api.ErrRange // it has no byte to spare
		}
		decoded(t, append(b, 0), nothing, want)
	}
}

// P5.7, P5.10: all rows of up to two bytes, those of three that begin with a kind, and random ones.
func TestDecodeAgainstWords(t *testing.T) {
	for i := range 256 {
		agrees(t, []byte{byte(i)})
		for j := range 256 {
			agrees(t, []byte{byte(i), byte(j)})
			if i > 3 {
				continue
			}
			for k := range 256 {
				agrees(t, []byte{byte(i), byte(j), byte(k)})
			}
		}
	}
	r := rand.New(rand.NewSource(7))
	for range 100000 {
		b := make([]byte, 1+r.Intn(14))
		r.Read(b)
		b[0] %= 4
		if r.Intn(2) == 0 {
			for i := 1; i < len(b)-1; i++ {
				b[i] |= 0x80
			}
		}
		agrees(t, b)
	}
	// Whole values with one byte turned.
	all := values()
	for range 50000 {
		b := slowEncode(all[r.Intn(len(all))])
		b[r.Intn(min(len(b), 12))] ^= 1 << r.Intn(8)
		agrees(t, b)
	}
}

// P5.10: there and back; unlike values have unlike bytes.
func TestThereAndBack(t *testing.T) {
	seen := map[string]api.Value{}
	try := func(v api.Value) {
		t.Helper()
		b := encoded(t, v)
		decoded(t, b, v, api.OK)
		if other, ok := seen[string(b)]; ok && other != v {
			t.Errorf("P5.10: %s and %s are both %x", told(v), told(other), b)
		}
		seen[string(b)] = v
	}
	for _, v := range values() {
		try(v)
	}
	r := rand.New(rand.NewSource(10))
	for range 20000 {
		try(num(int64(r.Uint64()) >> r.Intn(64)))
		s := make([]byte, r.Intn(api.MaxText+1))
		r.Read(s)
		try(text(string(s)))
	}
	for n := int64(-70000); n <= 70000; n++ {
		try(num(n))
	}
}

// P5.11, W6: Decode leaves the bytes as they are, behind their end too, and its text does not hang on them.
func TestDecodeKeepsNothing(t *testing.T) {
	for _, v := range values() {
		room := append(encoded(t, v), "behind the end"...)
		was := slices.Clone(room)
		b := room[:len(room)-len("behind the end")]
		got, e := datum.Decode(b)
		if e != api.OK || !bytes.Equal(room, was) {
			t.Errorf("P5.11: %s: %v, or what was handed in is changed", told(v), e)
		}
		for i := range room {
			room[i] = ^room[i]
		}
		if got != v {
			t.Errorf("P5.11: %s has become %s", told(v), told(got))
		}
	}
}

// W6: what Encode answers is new memory each time, its spare room too.
func TestEncodeNewMemory(t *testing.T) {
	for _, v := range values() {
		first, second := encoded(t, v), encoded(t, v)
		want := slices.Clone(second)
		for i := range first[:cap(first)] {
			first[:cap(first)][i] ^= 0xff
		}
		if !bytes.Equal(second, want) || !bytes.Equal(encoded(t, v), want) {
			t.Errorf("W6: the bytes of %s are shared", told(v))
		}
	}
}

// P5.11: memory that a text shares may be changed by its owner: what was answered ahead of that stays as it was.
func TestTextsNotShared(t *testing.T) {
	for _, n := range []int{1, 2, 40, api.MaxKey} {
		room := []byte(long(n))
		v := text(unsafe.String(&room[0], n))
		var got []string
		add := func(w api.Value, e api.Errno) {
			t.Helper()
			if e != api.OK {
				t.Errorf("%d bytes: %v", n, e)
			}
			got = append(got, w.Text)
		}
		add(datum.Join(v, text("")))
		add(datum.Join(text(""), v))
		add(datum.Join(v, v))
		add(datum.Join(v, num(7)))
		add(datum.Join(num(7), v))
		s, e := datum.Key(v)
		add(text(s), e)
		clear(room)
		x := long(n)
		if want := []string{x, x, x + x, x + "7", "7" + x, x}; !slices.Equal(got, want) {
			t.Errorf("P5.11: %d bytes: %q, not %q", n, got, want)
		}
	}
}

// P5.11: what was handed in is let go as soon as its owner lets it go, while the answers are still held.
func TestNotKept(t *testing.T) {
	type held struct {
		rows []weak.Pointer[[256]byte]
		keep []any
	}
	told := make(chan held)
	// A goroutine of its own, so that no stack of this one holds them any more.
	go func() {
		var h held
		row := func() []byte {
			p := new([256]byte)
			h.rows = append(h.rows, weak.Make(p))
			return p[:]
		}
		value := func(n int) api.Value { return text(unsafe.String(&row()[0], n)) }
		keep := func(answer any, e api.Errno) { h.keep = append(h.keep, answer, e) }
		keep(datum.Join(value(200), text("")))
		keep(datum.Join(text(""), value(200)))
		keep(datum.Key(value(api.MaxKey)))
		keep(datum.Encode(value(256)))
		keep(datum.Add(value(9), num(1)))
		keep(datum.Check(value(9)), api.OK)
		keep(datum.Compare(value(9), value(9)), api.OK)
		keep(datum.Holds(api.CompareLess, value(9), value(9)), api.OK)
		b := row()
		copy(b, unhex("02 fd 01"))
		keep(datum.Decode(b))
		told <- h
	}()
	h := <-told
	for range 10 {
		runtime.GC()
	}
	for i, p := range h.rows {
		if p.Value() != nil {
			t.Errorf("P5.11: row %d is kept", i)
		}
	}
	runtime.KeepAlive(h.keep)
}
