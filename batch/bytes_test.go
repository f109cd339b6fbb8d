package batch_test

import (
	"bytes"
	"math"
	"math/rand"
	"slices"
	"testing"

	"treadle/api"
	"treadle/batch"
)

const sevenBytes = "01 01 02 01 70 01 02 01 0e"

// P12.2, P12.3: the chapter's own.
func TestBytesKnown(t *testing.T) {
	b, data := from(1, call("p", num(7))), unhex(sevenBytes)
	if got := encoded(t, b); !bytes.Equal(got, data) {
		t.Errorf("P12.2: %x", got)
	}
	decoded(t, data, b, api.OK)
	refused(t, data[:len(data)-1], api.ErrShort)
	refused(t, append(slices.Clone(data), 0), api.ErrForm)
	full := call("p", slices.Repeat([]api.Value{text(long(256))}, 16)...)
	many := from(1, slices.Repeat([]api.Txn{full}, 17)...)
	checked(t, many, api.OK)
	if got, e := batch.Encode(many); e != api.ErrLong || len(got) > 0 {
		t.Errorf("P12.2: 17 calls with 16 texts: %d bytes, %v", len(got), e)
	}
}

// P12.2: bytes written out, there and back.
func TestBytesWrittenOut(t *testing.T) {
	for _, x := range []struct {
		b    api.Batch
		want string
	}{
		{from(1, call("p")), "01 01 02 01 70 00"},
		{from(127, call("p")), "7f 01 02 01 70 00"},
		{from(128, call("p")), "80 01 01 02 01 70 00"},
		{from(300, call("p")), "ac 02 01 02 01 70 00"},
		{from(api.MaxNumber, call("p")), "ff ff ff ff ff ff 3f 01 02 01 70 00"},
		{from(1, call("put2", text("a"), nothing)), "01 01 02 04 70 75 74 32 02 03 02 01 61 01 00"},
		{from(1, call("p", num(-1), num(64), text(""))), "01 01 02 01 70 03 02 01 01 03 01 80 01 02 02 00"},
		{from(1, call("p", num(math.MinInt64))), "01 01 02 01 70 01 0b 01 ff ff ff ff ff ff ff ff ff 01"},
		{from(1, define(api.Proc{Name: "q"})), "01 01 01 04 01 71 00 00"},
		{from(1, define(api.Proc{Name: "q", Args: 16})), "01 01 01 04 01 71 10 00"},
		{from(1, define(put2())), "01 01 01 11 04 70 75 74 32 02 04 02 00 00 02 01 01 04 00 01 10"},
		{from(5, define(api.Proc{Name: "q"}), call("q"), call("p", num(7)), define(api.Proc{Name: "r"})),
			"05 04 01 04 01 71 00 00 02 01 71 00 02 01 70 01 02 01 0e 01 04 01 72 00 00"},
		{from(1, call("p", make([]api.Value, 16)...)),
			"01 01 02 01 70 10 01 00 01 00 01 00 01 00 01 00 01 00 01 00 01 00 01 00 01 00 01 00 01 00 01 00 01 00 01 00 01 00"},
	} {
		want := unhex(x.want)
		if got := encoded(t, x.b); !bytes.Equal(got, want) {
			t.Errorf("P12.2: %s is %x, not %x", told(x.b), got, want)
		}
		decoded(t, want, x.b, api.OK)
	}
	// Lengths of more than seven digits: an argument of 256 bytes, a definition of 264, 64 transactions.
	data := slices.Concat(unhex("01 01 02 01 70 01 83 02 02 80 02"), []byte(long(256)))
	b := from(1, call("p", text(long(256))))
	if got := encoded(t, b); !bytes.Equal(got, data) {
		t.Errorf("P12.2: a text of 256 bytes: %x", got)
	}
	decoded(t, data, b, api.OK)
	data = slices.Concat(unhex("01 01 01 8b 02 01 70 00 01 01 0f 83 02 02 80 02"), []byte(long(256)))
	b = from(1, define(of(api.Instr{Op: api.OpSet, A: 15, Value: text(long(256))})))
	if got := encoded(t, b); !bytes.Equal(got, data) {
		t.Errorf("P12.2: a definition with a text of 256 bytes: %x", got)
	}
	decoded(t, data, b, api.OK)
	data = append(unhex("01 40"), bytes.Repeat(unhex("02 01 70 00"), 64)...)
	b = from(1, slices.Repeat([]api.Txn{call("p")}, 64)...)
	if got := encoded(t, b); !bytes.Equal(got, data) {
		t.Errorf("P12.2: 64 calls: %x", got)
	}
	decoded(t, data, b, api.OK)
}

// P12.2, P12.3: bytes about the limit, there and back.
func TestBytesAboutLimit(t *testing.T) {
	for _, n := range []int{65534, 65535, 65536} {
		b := sized(t, n)
		data := encoded(t, b)
		if len(data) != n || !bytes.Equal(data, slowBytes(b)) {
			t.Errorf("P12.2: %d bytes, not %d", len(data), n)
		}
		decoded(t, data, b, api.OK)
		more := append(slices.Clone(data), 0)
		want := api.ErrForm
		if n == 65536 {
			want = api.ErrLong
		}
		refused(t, more, want)
	}
	for _, n := range []int{65537, 65538, 66000} {
		b := sized(t, n)
		checked(t, b, api.OK)
		if data, e := batch.Encode(b); e != api.ErrLong || len(data) > 0 {
			t.Errorf("P12.2: %d bytes: %d, %v", n, len(data), e)
		}
		refused(t, slowBytes(b), api.ErrLong)
		// The same batch, one that offends behind all the others: what Check says comes ahead.
		for _, x := range badTxns() {
			b.Txns[len(b.Txns)-1] = x.t
			refusedBatch(t, b, x.want)
		}
	}
	// A First of one byte more makes the difference too.
	b := sized(t, 65536)
	b.First = 128
	if data, e := batch.Encode(b); e != api.ErrLong || len(data) > 0 {
		t.Errorf("P12.2: one byte more by First: %d, %v", len(data), e)
	}
}

// P12.2: definitions alone that are too long, and the greatest batch of all.
func TestLongDefinitions(t *testing.T) {
	big := define(of(slices.Repeat([]api.Instr{{Op: api.OpSet, Value: text(long(256))}}, 64)...))
	for n := 1; n <= 64; n++ {
		b := from(1, slices.Repeat([]api.Txn{big}, n)...)
		want, err := slowEncode(b)
		if err == api.OK != (n <= 3) {
			t.Fatalf("%d such definitions: %v", n, err)
		}
		if data, e := batch.Encode(b); e != err || !bytes.Equal(data, want) {
			t.Errorf("P12.2: %d definitions: %d bytes, %v, not %v", n, len(data), e, err)
		}
	}
}

// P12.3: data above the limit, whatever it says.
func TestDecodeLong(t *testing.T) {
	for _, n := range []int{65537, 65538, 1 << 20} {
		for _, c := range []byte{0, 1, 2, 0x80, 0xff} {
			refused(t, bytes.Repeat([]byte{c}, n), api.ErrLong)
		}
		data := make([]byte, n)
		copy(data, unhex(sevenBytes))
		refused(t, data, api.ErrLong)
		copy(data, unhex("01 41"))
		refused(t, data, api.ErrLong)
	}
	for c := range 256 {
		agrees(t, bytes.Repeat([]byte{byte(c)}, 65536))
	}
	data := make([]byte, 65536)
	copy(data, unhex(sevenBytes))
	refused(t, data, api.ErrForm)
	refused(t, make([]byte, 65536), api.ErrForm)
}

// P12.3: each beginning of what Encode says, and bytes behind it.
func TestBeginningsAndRest(t *testing.T) {
	for _, b := range some() {
		data := encoded(t, b)
		for i := range data {
			e := agrees(t, data[:i])
			// The length of a text that is no longer all there may be above that of all bytes.
			if e != api.ErrShort && e != api.ErrLong {
				t.Errorf("P12.3: %d bytes of %x: %v", i, data[:min(len(data), 40)], e)
			}
		}
		decoded(t, data, b, api.OK)
		for c := range 256 {
			refused(t, append(slices.Clone(data), byte(c)), api.ErrForm)
		}
		refused(t, slices.Concat(data, data), api.ErrForm)
	}
	for i := range unhex(sevenBytes) {
		refused(t, unhex(sevenBytes)[:i], api.ErrShort)
	}
}

// P12.3: each byte of what Encode says changed to each other one.
func TestBytesChanged(t *testing.T) {
	for _, b := range []api.Batch{
		from(1, call("p", num(7))),
		from(300, define(put2()), call("put2", text("a"), nothing), call("put2")),
		from(api.MaxNumber, call("p9", num(math.MinInt64))),
		from(1, call("p"), define(api.Proc{Name: "q", Args: 3}), call("q", nothing, nothing, text("abc"))),
		from(2, define(of(api.Instr{Op: api.OpSet, A: 1, Value: text("abc")}, api.Instr{Op: api.OpSkip, A: 1, B: 2, C: 3, N: 4}, api.Instr{Op: api.OpStop}))),
		from(1, call(long(32), text(long(130)))),
	} {
		data := encoded(t, b)
		for i, was := range data {
			for c := range 256 {
				data[i] = byte(c)
				if e := agrees(t, data); e == api.OK != (slowCheckedBytes(data)) {
					t.Errorf("P12.3: %x: %v", data, e)
				}
			}
			data[i] = was
		}
	}
	for _, b := range some() {
		data := encoded(t, b)
		r := rand.New(rand.NewSource(int64(len(data))))
		for range 200 {
			i := r.Intn(len(data))
			was := data[i]
			data[i] ^= 1 << r.Intn(8)
			agrees(t, data)
			data[i] = was
		}
	}
}

// slowCheckedBytes tells whether bytes are what Encode says of something.
func slowCheckedBytes(data []byte) bool {
	b, e := slowDecode(data)
	return e == api.OK && bytes.Equal(slowBytes(b), data)
}

// P12.3: what cannot be read first decides, and all of that comes ahead of what Check says.
func TestDecodeRefuses(t *testing.T) {
	for s, want := range map[string]api.Errno{
		"":                                    api.ErrShort,
		"01":                                  api.ErrShort,
		"00":                                  api.ErrShort,
		"01 01":                               api.ErrShort,
		"80":                                  api.ErrShort, // First
		"80 00":                               api.ErrForm,
		"81 00 01 02 01 70 00":                api.ErrForm,
		"81 80 00 01 02 01 70 00":             api.ErrForm,
		"ff ff ff ff ff ff ff ff 80":          api.ErrRange,
		"ff ff ff ff ff ff ff ff 80 00":       api.ErrRange,
		"ff ff ff ff ff ff ff ff 7f":          api.ErrShort,
		"ff ff ff ff ff ff ff ff":             api.ErrShort,
		"00 01 02 01 70 00":                   api.ErrArg, // a First that is read, but none
		"80 80 80 80 80 80 40 01 02 01 70 00": api.ErrArg,
		"ff ff ff ff ff ff ff ff 7f 01 02 01 70 00":       api.ErrArg,
		"ff ff ff ff ff ff 3f 01 02 01 70 00":             api.OK,
		"ff ff ff ff ff ff 3f 02 02 01 70 00 02 01 70 00": api.ErrNumber,
		"fe ff ff ff ff ff 3f 02 02 01 70 00 02 01 70 00": api.OK,
		"00 00":                               api.ErrArg, // no transaction
		"01 00":                               api.ErrArg,
		"01 00 00":                            api.ErrForm,
		"00 00 00":                            api.ErrForm,
		"01 80":                               api.ErrShort, // how many
		"01 80 00":                            api.ErrForm,
		"01 81 00 02 01 70 00":                api.ErrForm,
		"01 ff ff ff ff ff ff ff ff 80":       api.ErrRange,
		"01 41":                               api.ErrArg, // too many, ahead of what is missing
		"00 41":                               api.ErrArg,
		"01 40":                               api.ErrShort,
		"01 c1 00":                            api.ErrForm,
		"01 80 01":                            api.ErrArg,
		"01 ff ff ff ff ff ff ff ff 7f":       api.ErrArg,
		"01 41 80 00":                         api.ErrArg,
		"01 01 00":                            api.ErrArg, // a Kind that is none
		"01 01 03":                            api.ErrArg,
		"01 01 ff":                            api.ErrArg,
		"01 01 00 80 00":                      api.ErrArg,
		"01 02 02 01 70 00":                   api.ErrShort,
		"01 02 02 01 70 00 03":                api.ErrArg,
		"01 02 02 01 70 00 82":                api.ErrArg,
		"01 01 02":                            api.ErrShort, // a call's name
		"01 01 02 00":                         api.ErrShort,
		"01 01 02 00 00":                      api.ErrName,
		"01 01 02 00 00 00":                   api.ErrForm,
		"01 01 02 01 31 00":                   api.ErrName,
		"01 01 02 01 31 00 00":                api.ErrForm,
		"01 01 02 02 70 20 00":                api.ErrName,
		"01 01 02 80 00 00":                   api.ErrForm,
		"01 01 02 81 00 70 00":                api.ErrForm,
		"01 01 02 20":                         api.ErrShort,
		"01 01 02 20 70":                      api.ErrShort,
		"01 01 02 21":                         api.ErrLong,
		"01 01 02 21 70":                      api.ErrLong,
		"01 01 02 a1 00":                      api.ErrForm,
		"01 01 02 ff ff ff ff ff ff ff ff 7f": api.ErrLong,
		"01 01 02 ff ff ff ff ff ff ff ff 80": api.ErrRange,
		"01 01 02 01 70":                      api.ErrShort, // how many arguments
		"01 01 02 01 70 80":                   api.ErrShort,
		"01 01 02 01 70 80 00":                api.ErrForm,
		"01 01 02 01 70 10":                   api.ErrShort,
		"01 01 02 01 70 11":                   api.ErrLong,
		"01 01 02 01 70 91 00":                api.ErrForm,
		"01 01 02 01 70 11 80 00":             api.ErrLong,
		"01 01 02 01 31 11":                   api.ErrLong,
		"00 01 02 01 70 11":                   api.ErrLong,
		"01 01 02 01 70 ff ff ff ff ff ff ff ff 7f":             api.ErrLong,
		"01 01 02 01 70 ff ff ff ff ff ff ff ff 80":             api.ErrRange,
		"01 01 02 01 70 01":                                     api.ErrShort, // an argument
		"01 01 02 01 70 01 00":                                  api.ErrShort,
		"01 01 02 01 70 01 01 03":                               api.ErrForm,
		"01 01 02 01 70 01 02 00 00":                            api.ErrForm,
		"01 01 02 01 70 01 01 01":                               api.ErrShort,
		"01 01 02 01 70 01 01 02":                               api.ErrShort,
		"01 01 02 01 70 01 03 01 80 00":                         api.ErrForm,
		"01 01 02 01 70 01 03 02 81 02":                         api.ErrLong,
		"01 01 02 01 70 01 03 01 0e":                            api.ErrShort,
		"01 01 02 01 70 01 82 00 01 0e":                         api.ErrForm,
		"01 01 02 01 70 01 09 01 0e":                            api.ErrShort, // as long as all bytes are, at most
		"01 01 02 01 70 01 0a 01 0e":                            api.ErrLong,
		"01 01 02 01 70 01 0c 01 ff ff ff ff ff ff ff ff ff 02": api.ErrShort,
		"01 01 02 01 70 01 0b 01 ff ff ff ff ff ff ff ff ff 02": api.ErrRange,
		"01 01 02 01 31 01 01 03":                               api.ErrForm,
		"00 01 02 01 70 01 01 03":                               api.ErrForm,
		"01 01 02 01 70 02 01 00 01 03":                         api.ErrForm,
		"01 02 02 01 31 00 00":                                  api.ErrArg, // a Kind that is none ahead of the name
		"01 02 02 01 31 00 02 01 70 11":                         api.ErrLong,
		"01 01 01":                                              api.ErrShort, // a definition
		"01 01 01 00":                                           api.ErrShort,
		"01 01 01 80 00":                                        api.ErrForm,
		"01 01 01 03 01 71 00":                                  api.ErrShort,
		"01 01 01 04 01 71 00":                                  api.ErrShort,
		"01 01 01 07 01 71 00":                                  api.ErrShort,
		"01 01 01 08 01 71 00":                                  api.ErrLong,
		"01 01 01 04 01 31 00 00":                               api.ErrName,
		"01 01 01 04 01 71 11 00":                               api.ErrArg,
		"01 01 01 04 01 71 00 41":                               api.ErrLong,
		"01 01 01 05 01 71 00 00 00":                            api.ErrForm,
		"01 01 01 05 01 71 00 01 11":                            api.ErrOp,
		"01 01 01 06 01 71 00 01 0f 10":                         api.ErrOp,
		"01 01 01 08 01 71 00 01 01 00 01 03":                   api.ErrForm,
		"01 01 01 04 21 71 00 00":                               api.ErrLong,
		"01 01 01 0a ff ff ff ff ff ff ff ff 80 00":             api.ErrRange,
		"00 01 01 04 01 31 00 00":                               api.ErrName, // ahead of the First that is none
		"00 01 01 04 01 71 00 00":                               api.ErrArg,
		"01 02 02 01 31 00 01 04 01 71 11 00":                   api.ErrArg,
		"01 02 02 01 31 00 01 05 01 71 00 01 11":                api.ErrOp, // ahead of the call's name
		"01 02 02 01 31 00 01 04 01 71 00 00":                   api.ErrName,
		"00 02 02 01 31 00 01 04 01 71 00 00":                   api.ErrArg,
		"ff ff ff ff ff ff 3f 02 02 01 31 00 02 01 70 00":       api.ErrNumber,
	} {
		data := unhex(s)
		if want != api.OK {
			refused(t, data, want)
		}
		if e := agrees(t, data); e != want {
			t.Errorf("P12.3: %s: the words say %v, not %v", s, e, want)
		}
	}
}

// P12.3: each number of what Encode says in a form that is one nought longer.
func TestLongerNumbers(t *testing.T) {
	longer := func(n int) []byte {
		b := slowRow(n)
		b[len(b)-1] |= 0x80
		return append(b, 0)
	}
	body := unhex("02 01 70 01 02 01 0e")
	for _, first := range []int{1, 127, 128, 300, api.MaxNumber} {
		refused(t, slices.Concat(longer(first), []byte{1}, body), api.ErrForm)
		refused(t, slices.Concat(slowRow(first), longer(1), body), api.ErrForm)
	}
	refused(t, slices.Concat([]byte{1, 1, 2}, longer(1), body[2:]), api.ErrForm)
	refused(t, slices.Concat([]byte{1, 1, 2, 1, 'p'}, longer(1), body[4:]), api.ErrForm)
	refused(t, slices.Concat([]byte{1, 1, 2, 1, 'p', 1}, longer(2), body[5:]), api.ErrForm)
	refused(t, slices.Concat([]byte{1, 1, 2, 1, 'p', 1, 3, 1}, longer(14)), api.ErrForm)
	refused(t, slices.Concat([]byte{1, 1, 2, 1, 'p', 1, 2, 1}, longer(14)), api.ErrShort)
	refused(t, slices.Concat([]byte{1, 1, 1}, longer(4), unhex("01 71 00 00")), api.ErrForm)
}

// P12.3: all rows of up to three bytes behind a few beginnings, and random ones.
func TestDecodeAgainstWords(t *testing.T) {
	for _, head := range []string{"", "01", "01 01", "01 01 01", "01 01 02", "01 01 02 01 70", "01 01 02 01 70 01", "01 01 02 01 70 01 02", "00 02 02 01 31 00"} {
		for i := range 256 {
			data := append(unhex(head), byte(i))
			agrees(t, data)
			for j := range 256 {
				agrees(t, append(slices.Clone(data), byte(j)))
			}
		}
	}
	r := chanceOf(123)
	for range 100000 {
		data := make([]byte, r.Intn(24))
		for i := range data {
			data[i] = byte(r.Intn(4))
			if r.Intn(12) == 0 {
				data[i] = byte(r.Intn(256))
			}
		}
		agrees(t, data)
	}
	taken := 0
	for range 20000 {
		b := r.batch()
		if slowCheck(b) != api.OK {
			continue
		}
		data := slowBytes(b)
		for range r.Intn(4) {
			at := r.Intn(len(data) + 1)
			switch r.Intn(3) {
			case 0:
				data = slices.Insert(data, at, byte(r.Intn(256)))
			case 1:
				data = slices.Delete(data, min(at, len(data)-1), min(at, len(data)-1)+1)
			default:
				data[min(at, len(data)-1)] = byte(r.Intn(256))
			}
			if len(data) == 0 {
				break
			}
		}
		if agrees(t, data) == api.OK {
			taken++
		}
	}
	if taken < 2000 {
		t.Errorf("only %d are taken", taken)
	}
}

// P12.2, P12.4: random batches, there and back; unlike ones have unlike bytes, like ones the same.
func TestThereAndBack(t *testing.T) {
	r := chanceOf(124)
	seen := map[string]api.Batch{}
	try := func(b api.Batch) {
		t.Helper()
		want, err := slowEncode(b)
		data, e := batch.Encode(b)
		if e != err || !bytes.Equal(data, want) {
			t.Errorf("P12.2: Encode(%s): %d bytes, %v, not %d bytes, %v", told(b), len(data), e, len(want), err)
		}
		if e != api.OK {
			return
		}
		decoded(t, data, b, api.OK)
		if other, is := seen[string(data)]; is && !same(other, b) {
			t.Errorf("P12.4: %s and %s are both %x", told(b), told(other), data)
		}
		seen[string(data)] = b
	}
	for _, b := range some() {
		try(b)
	}
	for range 10000 {
		try(r.batch())
	}
	if len(seen) < 3000 {
		t.Errorf("only %d are taken", len(seen))
	}
}

// P12.4: batches that are unlike in one thing alone have unlike bytes; lists that are nil and empty have the same.
func TestUnlike(t *testing.T) {
	all := []api.Batch{
		from(1, call("p", text("a"))), from(2, call("p", text("a"))), from(1, call("q", text("a"))), from(1, call("pq", text("a"))),
		from(1, call("p", text("b"))), from(1, call("p", text("aa"))), from(1, call("p", nothing)), from(1, call("p", num(97))), from(1, call("p", num(-97))),
		from(1, call("p")), from(1, call("p", text("a"), text("a"))), from(1, call("p", text("a"), nothing)), from(1, call("p", nothing, text("a"))),
		from(1, call("p", text("a")), call("p", text("a"))), from(1, call("p"), call("p", text("a"))), from(1, call("p", text("a")), call("p")),
		from(1, define(api.Proc{Name: "p"})), from(1, define(api.Proc{Name: "q"})), from(1, define(api.Proc{Name: "p", Args: 1})),
		from(1, define(of(stops(1)...))), from(1, define(of(stops(2)...))), from(1, define(api.Proc{Name: "p"}), call("p")), from(1, call("p"), define(api.Proc{Name: "p"})),
		from(1, define(of(api.Instr{Op: api.OpSet, Value: text("a")}))), from(1, define(of(api.Instr{Op: api.OpSet, A: 1, Value: text("a")}))), from(1, define(of(api.Instr{Op: api.OpSet, Value: text("b")}))),
	}
	for i, a := range all {
		for j, b := range all {
			if bytes.Equal(encoded(t, a), encoded(t, b)) != (i == j) {
				t.Errorf("P12.4: %s and %s", told(a), told(b))
			}
		}
	}
	empty := from(1, api.Txn{Kind: api.TxnCall, Name: "p", Args: []api.Value{}, Proc: api.Proc{Code: []api.Instr{}}}, api.Txn{Kind: api.TxnDefine, Args: []api.Value{}, Proc: api.Proc{Name: "q", Code: []api.Instr{}}})
	if !bytes.Equal(encoded(t, empty), encoded(t, from(1, call("p"), define(api.Proc{Name: "q"})))) {
		t.Errorf("W5: an empty list is another one than nil")
	}
}

// W2: asked again, the same answers.
func TestAgain(t *testing.T) {
	for _, b := range some() {
		data := encoded(t, b)
		for range 3 {
			if !bytes.Equal(encoded(t, b), data) {
				t.Errorf("W2: %s", told(b))
			}
			decoded(t, data, b, api.OK)
		}
	}
}
