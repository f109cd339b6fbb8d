package proc_test

import (
	"bytes"
	"encoding/hex"
	"math"
	"math/rand"
	"runtime"
	"slices"
	"strings"
	"testing"
	"unsafe"
	"weak"

	"treadle/api"
	"treadle/proc"
)

func unhex(s string) []byte {
	b, err := hex.DecodeString(strings.ReplaceAll(s, " ", ""))
	if err != nil {
		panic(err)
	}
	return b
}

const put2Bytes = "04 70 75 74 32 02 04 02 00 00 02 01 01 04 00 01 10"

// same tells whether two procedures are the same; a list without an element is as good as none.
func same(p, q api.Proc) bool {
	return p.Name == q.Name && p.Args == q.Args && slices.Equal(p.Code, q.Code)
}

// slowRow is the row of sevens of a number.
func slowRow(u uint64) []byte {
	var out []byte
	for ; u >= 128; u /= 128 {
		out = append(out, byte(u%128+128))
	}
	return append(out, byte(u))
}

// slowText is a text with its length.
func slowText(s string) []byte { return append(slowRow(uint64(len(s))), s...) }

// slowValueBytes is chapter 5's Encode.
func slowValueBytes(v api.Value) []byte {
	out := []byte{byte(v.Kind)}
	switch {
	case v.Kind == 1 && v.Int >= 0:
		out = append(out, slowRow(2*uint64(v.Int))...)
	case v.Kind == 1:
		out = append(out, slowRow(2*uint64(-(v.Int+1))+1)...)
	case v.Kind == 2:
		out = append(out, slowText(v.Text)...)
	}
	return out
}

// slowEncode is the bytes of a procedure as the chapter says them, whether it is one or not.
func slowEncode(p api.Proc) []byte {
	out := slices.Concat(slowText(p.Name), slowRow(uint64(p.Args)), slowRow(uint64(len(p.Code))))
	for _, in := range p.Code {
		out = append(out, byte(in.Op))
		for _, letter := range shapes[in.Op] {
			switch letter {
			case 'A', 'B', 'C':
				out = append(out, byte(*part(&in, letter)))
			case 'v':
				out = append(out, slowText(string(slowValueBytes(in.Value)))...)
			default:
				out = append(out, slowRow(uint64(*part(&in, letter)))...)
			}
		}
	}
	return out
}

// row is bytes that are taken from the front till one thing cannot be.
type row struct {
	b   []byte
	err api.Errno
}

// sevens takes a row of sevens; one of an Int may have ten bytes.
func (r *row) sevens(ofInt bool) uint64 {
	var u uint64
	for i := 0; r.err == api.OK; i++ {
		if i == len(r.b) {
			r.err = api.ErrShort
			break
		}
		c := r.b[i]
		if !ofInt && i == 8 && c >= 128 || ofInt && i == 9 && c > 1 {
			r.err = api.ErrRange
			break
		}
		u += uint64(c%128) << (7 * i)
		if c >= 128 {
			continue
		}
		if i > 0 && c == 0 {
			r.err = api.ErrForm
			break
		}
		r.b = r.b[i+1:]
		return u
	}
	return 0
}

func (r *row) byte() int {
	if r.err == api.OK && len(r.b) == 0 {
		r.err = api.ErrShort
	}
	if r.err != api.OK {
		return 0
	}
	c := r.b[0]
	r.b = r.b[1:]
	return int(c)
}

func (r *row) text(most int) string {
	u := r.sevens(false)
	switch {
	case r.err != api.OK:
		return ""
	case u > uint64(most):
		r.err = api.ErrLong
		return ""
	case u > uint64(len(r.b)):
		r.err = api.ErrShort
		return ""
	}
	s := string(r.b[:u])
	r.b = r.b[u:]
	return s
}

// slowValueOf is chapter 5's Decode.
func slowValueOf(s string) (api.Value, api.Errno) {
	r := &row{b: []byte(s)}
	v := api.Value{Kind: r.byte()}
	switch {
	case r.err != api.OK:
	case v.Kind == 1:
		u := r.sevens(true)
		v.Int = int64(u / 2)
		if u%2 == 1 {
			v.Int = -v.Int - 1
		}
	case v.Kind == 2:
		v.Text = r.text(256)
	case v.Kind > 2:
		r.err = api.ErrForm
	}
	if r.err == api.OK && len(r.b) > 0 {
		r.err = api.ErrForm
	}
	return v, r.err
}

// slowInstrOf takes an instruction.
func slowInstrOf(r *row, most int) api.Instr {
	in := api.Instr{Op: r.byte()}
	shape, ok := shapes[in.Op]
	if r.err == api.OK && !ok {
		r.err = api.ErrOp
	}
	for _, letter := range shape {
		switch letter {
		case 'A', 'B', 'C':
			*part(&in, letter) = r.byte()
		case 'v':
			s := r.text(most)
			if r.err == api.OK {
				in.Value, r.err = slowValueOf(s)
			}
		default:
			*part(&in, letter) = int(r.sevens(false))
		}
	}
	return in
}

// slowDecode is Decode as the chapter says it.
func slowDecode(b []byte) (api.Proc, api.Errno) {
	r := &row{b: b}
	p := api.Proc{}
	p.Name = r.text(32)
	p.Args = int(r.sevens(false))
	n := r.sevens(false)
	if r.err == api.OK && n > 64 {
		r.err = api.ErrLong
	}
	for i := uint64(0); i < n && r.err == api.OK; i++ {
		p.Code = append(p.Code, slowInstrOf(r, len(b)))
	}
	if r.err == api.OK && len(r.b) > 0 {
		r.err = api.ErrForm
	}
	if r.err == api.OK {
		_, r.err = slowCheck(p)
	}
	if r.err != api.OK {
		return api.Proc{}, r.err
	}
	return p, api.OK
}

// decoded asks Decode, and holds its answer against what is wanted; beside an error it is zero.
func decoded(t *testing.T, b []byte, want api.Proc, err api.Errno) {
	t.Helper()
	if p, e := proc.Decode(b); e != err || !same(p, want) {
		t.Errorf("P6.3: Decode(%x): %s, %v, not %s, %v", b[:min(len(b), 60)], told(p), e, told(want), err)
	}
}

// refused is bytes that Decode refuses.
func refused(t *testing.T, b []byte, err api.Errno) {
	t.Helper()
	decoded(t, b, api.Proc{}, err)
}

// decodes holds Decode against the chapter's words; what it takes is what Encode says of it.
func decodes(t *testing.T, b []byte) api.Errno {
	t.Helper()
	want, err := slowDecode(b)
	decoded(t, b, want, err)
	if err != api.OK {
		return err
	}
	if again, e := proc.Encode(want); e != api.OK || !bytes.Equal(again, b) {
		t.Errorf("P6.4: %x comes back as %x, %v", b, again, e)
	}
	return err
}

// encoded is the bytes of a procedure.
func encoded(t *testing.T, p api.Proc) []byte {
	t.Helper()
	b, e := proc.Encode(p)
	if e != api.OK {
		t.Fatalf("P6.2: Encode(%s): %v", told(p), e)
	}
	return b
}

// some is procedures that Check takes: each operation alone, each value, all of them in one, and rows of all lengths.
func some() []api.Proc {
	out := []api.Proc{put2(), {Name: "p"}, {Name: "p", Args: 16}, {Name: long(32), Args: 7, Code: stops(1)}, of(stops(64)...)}
	all := of()
	for op := 1; op <= 16; op++ {
		all.Code = append(all.Code, plain(op))
		out = append(out, of(plain(op), api.Instr{Op: api.OpStop}))
	}
	taken, _ := values()
	for i, v := range taken {
		out = append(out, of(api.Instr{Op: api.OpSet, A: i % 16, Value: v}))
		all.Code = append(all.Code, api.Instr{Op: api.OpSet, A: i % 16, Value: v})
	}
	skip := of(stops(64)...)
	skip.Code[0] = api.Instr{Op: api.OpSkip, A: 63, B: 15, C: 14, N: 6}
	look := of(api.Instr{Op: api.OpSum, A: 1, B: 2, C: 3, N: 64}, api.Instr{Op: api.OpCount, A: 4, B: 5, C: 6, N: 1})
	return append(out, all, skip, look)
}

// P6.2, P6.3: the chapter's own.
func TestBytesKnown(t *testing.T) {
	b := unhex(put2Bytes)
	if got := encoded(t, put2()); !bytes.Equal(got, b) {
		t.Errorf("P6.2: %x", got)
	}
	decoded(t, b, put2(), api.OK)
	refused(t, b[:len(b)-1], api.ErrShort)
	refused(t, append(slices.Clone(b), 0), api.ErrForm)
	b[len(b)-1] = 0x11
	refused(t, b, api.ErrOp)
}

// P6.2: each operation's bytes, written out.
func TestBytesOfOperations(t *testing.T) {
	for _, x := range []struct {
		in   api.Instr
		want string
	}{
		{api.Instr{Op: api.OpSet, A: 5}, "01 05 01 00"},
		{api.Instr{Op: api.OpSet, A: 15, Value: num(64)}, "01 0f 03 01 80 01"},
		{api.Instr{Op: api.OpSet, Value: num(-1)}, "01 00 02 01 01"},
		{api.Instr{Op: api.OpSet, A: 1, Value: num(math.MinInt64)}, "01 01 0b 01 ff ff ff ff ff ff ff ff ff 01"},
		{api.Instr{Op: api.OpSet, A: 2, Value: text("ab")}, "01 02 04 02 02 61 62"},
		{api.Instr{Op: api.OpSet, A: 2, Value: text("")}, "01 02 02 02 00"},
		{api.Instr{Op: api.OpArg, A: 3, N: 15}, "02 03 0f"},
		{api.Instr{Op: api.OpGet, A: 1, B: 2}, "03 01 02"},
		{api.Instr{Op: api.OpPut, A: 3, B: 4}, "04 03 04"},
		{api.Instr{Op: api.OpDel, A: 9}, "05 09"},
		{api.Instr{Op: api.OpAdd, A: 1, B: 2, C: 3}, "06 01 02 03"},
		{api.Instr{Op: api.OpSub, A: 4, B: 5, C: 6}, "07 04 05 06"},
		{api.Instr{Op: api.OpMul, A: 7, B: 8, C: 9}, "08 07 08 09"},
		{api.Instr{Op: api.OpJoin, A: 10, B: 11, C: 12}, "09 0a 0b 0c"},
		{api.Instr{Op: api.OpNeed, B: 13, C: 14, N: 6}, "0a 0d 0e 06"},
		{api.Instr{Op: api.OpSkip, A: 1, B: 2, C: 3, N: 4}, "0b 01 02 03 04"},
		{api.Instr{Op: api.OpSum, A: 1, B: 2, C: 3, N: 64}, "0c 01 02 03 40"},
		{api.Instr{Op: api.OpCount, A: 4, B: 5, C: 6, N: 7}, "0d 04 05 06 07"},
		{api.Instr{Op: api.OpNext, A: 15, B: 14}, "0e 0f 0e"},
		{api.Instr{Op: api.OpTell, A: 8}, "0f 08"},
		{api.Instr{Op: api.OpStop}, "10"},
	} {
		p := of(x.in, api.Instr{Op: api.OpDel, A: 7})
		want := unhex("01 70 10 02" + x.want + "05 07")
		if got := encoded(t, p); !bytes.Equal(got, want) {
			t.Errorf("P6.2: %+v is %x, not %x", x.in, got, want)
		}
		decoded(t, want, p, api.OK)
	}
}

// P6.2: lengths of more than seven digits.
func TestBytesOfLongValues(t *testing.T) {
	for n, head := range map[int]string{
		124: "01 00 7e 02 7c", 125: "01 00 7f 02 7d", 126: "01 00 80 01 02 7e", 127: "01 00 81 01 02 7f",
		128: "01 00 83 01 02 80 01", 256: "01 00 83 02 02 80 02",
	} {
		p := of(api.Instr{Op: api.OpSet, Value: text(long(n))})
		want := slices.Concat(unhex("01 70 10 01"+head), []byte(long(n)))
		if got := encoded(t, p); !bytes.Equal(got, want) {
			t.Errorf("P6.2: a text of %d bytes: %x", n, got[:20])
		}
		decoded(t, want, p, api.OK)
	}
}

// P6.2: Encode against the chapter's words, of what Check takes and of what it refuses.
func TestEncodeAgainstWords(t *testing.T) {
	r := rand.New(rand.NewSource(62))
	for _, p := range some() {
		if b := encoded(t, p); !bytes.Equal(b, slowEncode(p)) {
			t.Errorf("P6.2: %s is %x", told(p), b)
		}
	}
	for range 10000 {
		p := anyProc(r)
		b, e := proc.Encode(p)
		_, want := slowCheck(p)
		if e != want || e == api.OK && !bytes.Equal(b, slowEncode(p)) || e != api.OK && len(b) > 0 {
			t.Errorf("P6.2: Encode(%s): %x, %v, not %v", told(p), b, e, want)
		}
	}
}

// P6.2, W3: Encode refuses with the error of Check, and says nothing beside it.
func TestEncodeRefuses(t *testing.T) {
	for want, all := range map[api.Errno][]api.Proc{
		api.ErrName: {{}, {Name: "9"}, {Name: long(33)}, {Args: -1, Code: stops(65)}},
		api.ErrArg:  {{Name: "p", Args: -1}, {Name: "p", Args: 17, Code: stops(65)}},
		api.ErrLong: {of(stops(65)...), of(api.Instr{Op: api.OpSet, Value: text(long(257))})},
		api.ErrOp:   {of(api.Instr{}), of(api.Instr{Op: 17}), of(api.Instr{Op: api.OpStop, A: 1}), of(api.Instr{Op: api.OpTell, A: 16}), of(api.Instr{Op: api.OpSet, N: 1, Value: text(long(257))}), of(api.Instr{Op: 257, A: 1})},
		api.ErrKind: {of(api.Instr{Op: api.OpSet, Value: api.Value{Kind: 3}}), of(stops(1)[0], api.Instr{Op: api.OpSet, Value: api.Value{Kind: 1, Text: "x"}})},
	} {
		for _, p := range all {
			if b, e := proc.Encode(p); e != want || len(b) > 0 {
				t.Errorf("P6.2: Encode(%s): %x, %v, not %v", told(p), b, e, want)
			}
		}
	}
}

// P6.3: each shorter beginning, and bytes behind a whole procedure.
func TestBeginningsAndRest(t *testing.T) {
	for _, p := range some() {
		b := encoded(t, p)
		for i := range b {
			got, e := proc.Decode(b[:i])
			// The length of a Value that is no longer all there may be above that of all bytes.
			if _, want := slowDecode(b[:i]); e != want || e != api.ErrShort && e != api.ErrLong || !same(got, api.Proc{}) {
				t.Errorf("P6.3: %d bytes of %x: %s, %v, not %v", i, b[:min(len(b), 40)], told(got), e, want)
			}
		}
		decoded(t, b, p, api.OK)
		for c := range 256 {
			refused(t, append(slices.Clone(b), byte(c)), api.ErrForm)
		}
		refused(t, slices.Concat(b, b), api.ErrForm)
	}
	for i := range unhex(put2Bytes) {
		refused(t, unhex(put2Bytes)[:i], api.ErrShort)
	}
}

// P6.3: what is wrong first decides, and what is wrong within the bytes comes ahead of what Check says.
func TestDecodeRefuses(t *testing.T) {
	for s, want := range map[string]api.Errno{
		"":                                    api.ErrShort,
		"00":                                  api.ErrShort,
		"00 00":                               api.ErrShort,
		"00 00 00":                            api.ErrName,
		"00 00 00 00":                         api.ErrForm,
		"01 70 00 00":                         api.OK,
		"80 00":                               api.ErrForm, // the name's length is not in its shortest form
		"81 00 70 00 00":                      api.ErrForm,
		"21":                                  api.ErrLong, // a name above its limit comes ahead of its bytes
		"21 70":                               api.ErrLong,
		"20 70":                               api.ErrShort,
		"ff ff ff ff ff ff ff ff 7f":          api.ErrLong,
		"ff ff ff ff ff ff ff ff 80":          api.ErrRange,
		"01 39 00 00":                         api.ErrName,
		"01 70 80 00 00":                      api.ErrForm, // arguments
		"01 70 80":                            api.ErrShort,
		"01 70 10 00":                         api.OK,
		"01 70 11 00":                         api.ErrArg,
		"01 70 11 00 00":                      api.ErrForm,
		"01 70 ff ff ff ff ff ff ff ff 7f 00": api.ErrArg,
		"01 70 ff ff ff ff ff ff ff ff 80 00": api.ErrRange,
		"01 70 11 01 00":                      api.ErrOp,   // an Op that is none, ahead of the arguments
		"01 39 00 01 11":                      api.ErrOp,   // and ahead of the name
		"01 70 00 80 00":                      api.ErrForm, // how many instructions
		"01 70 00 41":                         api.ErrLong,
		"01 70 00 41 10 10":                   api.ErrLong,
		"01 70 00 41 00":                      api.ErrLong,
		"00 11 41":                            api.ErrLong,
		"01 70 00 40":                         api.ErrShort,
		"01 70 00 ff ff ff ff ff ff ff ff 7f": api.ErrLong,
		"01 70 00 ff ff ff ff ff ff ff ff 80": api.ErrRange,
		"01 70 00 01":                         api.ErrShort, // an instruction that is not there
		"01 70 00 01 00":                      api.ErrOp,
		"01 70 00 02 00":                      api.ErrOp,
		"01 70 00 01 11":                      api.ErrOp,
		"01 70 00 01 11 00":                   api.ErrOp,
		"01 70 00 01 ff":                      api.ErrOp,
		"01 70 00 01 10":                      api.OK,
		"01 70 00 01 10 10":                   api.ErrForm,
		"01 70 00 01 05":                      api.ErrShort, // registers
		"01 70 00 01 05 0f":                   api.OK,
		"01 70 00 01 05 10":                   api.ErrOp,
		"01 70 00 01 05 ff":                   api.ErrOp,
		"01 70 00 01 05 10 00":                api.ErrForm,
		"01 70 00 02 05 10 11":                api.ErrOp,
		"01 70 00 02 05 10":                   api.ErrShort,
		"01 70 00 02 05 10 01 00 01 03":       api.ErrForm,  // a later Value's bytes, ahead of what Check says of a register
		"01 70 01 01 02 00":                   api.ErrShort, // an argument's number
		"01 70 01 01 02 00 00":                api.OK,
		"01 70 01 01 02 00 01":                api.ErrOp,
		"01 70 01 01 02 00 80 00":             api.ErrForm,
		"01 70 01 01 02 00 80 01":             api.ErrOp,
		"01 70 01 01 02 00 80":                api.ErrShort,
		"01 70 01 01 02 00 ff ff ff ff ff ff ff ff 7f": api.ErrOp,
		"01 70 01 01 02 00 ff ff ff ff ff ff ff ff 80": api.ErrRange,
		"01 70 00 01 0a 00 00 06":                      api.OK, // comparisons
		"01 70 00 01 0a 00 00 07":                      api.ErrOp,
		"01 70 00 01 0a 00 00 00":                      api.ErrOp,
		"01 70 00 01 0a 00 00 86 00":                   api.ErrForm,
		"01 70 00 02 0b 01 00 00 01 10":                api.OK, // skips
		"01 70 00 02 0b 02 00 00 01 10":                api.ErrOp,
		"01 70 00 02 0b 00 00 00 01 10":                api.ErrOp,
		"01 70 00 02 0b 81 00 00 00 01 10":             api.ErrForm,
		"01 70 00 02 0b 81 01 00 00 01 10":             api.ErrOp,
		"01 70 00 01 0c 00 00 00 40":                   api.OK, // looks
		"01 70 00 01 0c 00 00 00 41":                   api.ErrOp,
		"01 70 00 01 0d 00 00 00 c0 00":                api.ErrForm,
		"01 70 00 01 0d 00 00 00 c0 01":                api.ErrOp,
	} {
		b := unhex(s)
		if _, slow := slowDecode(b); slow != want {
			t.Errorf("the words say of %s: %v, not %v", s, slow, want)
		}
		if e := decodes(t, b); e != want {
			t.Errorf("P6.3: %s: %v, not %v", s, e, want)
		}
	}
}

// P6.3: a Value's bytes, and their length.
func TestDecodeValues(t *testing.T) {
	for s, want := range map[string]api.Errno{
		"":                                    api.ErrShort, // no length
		"00":                                  api.ErrShort, // chapter 5's error of no bytes
		"01":                                  api.ErrShort,
		"01 00":                               api.OK,
		"01 01":                               api.ErrShort,
		"01 03":                               api.ErrForm,
		"02 00 00":                            api.ErrForm, // something is left in it
		"01 00 00":                            api.ErrForm, // something is left behind it
		"02 01 01":                            api.OK,
		"03 01 80 00":                         api.ErrForm,
		"03 01 80 01":                         api.OK,
		"02 01 80":                            api.ErrShort,
		"81 00 00":                            api.ErrForm, // the length is not in its shortest form
		"80":                                  api.ErrShort,
		"03 02 01 61":                         api.OK,
		"03 02 02 61":                         api.ErrShort,
		"03 02 02 61 61":                      api.ErrShort, // the byte behind it is not the text's
		"04 02 01 61 61":                      api.ErrForm,
		"03 02 81 02":                         api.ErrLong, // 257 bytes
		"04 02 81 02 61":                      api.ErrLong,
		"03 02 80 02":                         api.ErrShort,
		"09 01 00":                            api.ErrShort,
		"0b 01 ff ff ff ff ff ff ff ff ff 02": api.ErrRange,
		"0b 01 ff ff ff ff ff ff ff ff ff 01": api.OK,
		"ff ff ff ff ff ff ff ff 7f":          api.ErrLong,
		"ff ff ff ff ff ff ff ff 80":          api.ErrRange,
	} {
		b := append(unhex("01 70 00 01 01 00"), unhex(s)...)
		if e := decodes(t, b); e != want {
			t.Errorf("P6.3: %s: %v, not %v", s, e, want)
		}
	}
	// A Value's length is held against that of all bytes: as long as they are, it is too short; above that, too long.
	for size := 7; size <= 200; size++ {
		for n := max(0, size-9); n <= size+3; n++ {
			b := append(unhex("01 70 00 01 01 00"), slowRow(uint64(n))...)
			b = append(b, make([]byte, max(0, size-len(b)))...)
			want := api.ErrForm // a value is not that long
			if n > len(b) {
				want = api.ErrLong
			} else if n > len(b)-6-len(slowRow(uint64(n))) || n == 0 {
				want = api.ErrShort
			}
			e := decodes(t, b)
			if n > 1 && e != want {
				t.Errorf("P6.3: a length of %d in %d bytes: %v, not %v", n, len(b), e, want)
			}
		}
	}
}

// P6.3: how many instructions, with all of them there and without.
func TestDecodeLong(t *testing.T) {
	for n := range 300 {
		head := slices.Concat(unhex("01 70 00"), slowRow(uint64(n)))
		whole := slices.Concat(head, bytes.Repeat([]byte{api.OpStop}, n))
		if n > 64 {
			refused(t, head, api.ErrLong)
			refused(t, whole, api.ErrLong)
			refused(t, append(whole, 0), api.ErrLong)
			refused(t, append(head, 0), api.ErrLong)
			continue
		}
		decoded(t, whole, api.Proc{Name: "p", Code: stops(n)}, api.OK)
		if n > 0 {
			refused(t, head, api.ErrShort)
			refused(t, append(head, 0), api.ErrOp)
		}
	}
	for n := range 100 {
		name := slices.Concat([]byte{byte(n)}, []byte(long(n)), unhex("00 00"))
		switch {
		case n == 0:
			refused(t, name, api.ErrName)
		case n > 32:
			refused(t, name, api.ErrLong)
			refused(t, name[:1], api.ErrLong)
		default:
			decoded(t, name, api.Proc{Name: long(n)}, api.OK)
		}
	}
}

// P6.3: each byte as an Op; in the first place and in the last.
func TestDecodeOps(t *testing.T) {
	for c := range 256 {
		want := api.ErrOp
		if c >= 1 && c <= 15 {
			want = api.ErrShort
		}
		if c == 16 {
			continue
		}
		refused(t, append(unhex("01 70 00 01"), byte(c)), want)
		refused(t, append(unhex("01 70 00 03 10 10"), byte(c)), want)
		refused(t, append(unhex("01 70 00 02"), byte(c)), want)
	}
}

// P6.3: what can be read and Check refuses, with the error of Check.
func TestDecodeChecks(t *testing.T) {
	seen := map[api.Errno]int{}
	r := rand.New(rand.NewSource(63))
	for range 10000 {
		p := anyProc(r)
		// Numbers that no bytes say are left out of it.
		for i := range p.Code {
			in := &p.Code[i]
			for _, letter := range "ABCN" {
				if n := *part(in, letter); n < 0 || n > 255 {
					*part(in, letter) = n & 255
				}
			}
		}
		if len(p.Name) > 32 || len(p.Code) > 64 {
			continue
		}
		b := slowEncode(p)
		seen[decodes(t, b)]++
		decodes(t, append(b, 7))
	}
	for _, e := range []api.Errno{api.OK, api.ErrArg, api.ErrOp} {
		if seen[e] < 100 {
			t.Errorf("%v was met %d times", e, seen[e])
		}
	}
}

// P6.3, P6.4: short rows, random ones, and whole ones with bytes turned, left out and put in.
func TestDecodeAgainstWords(t *testing.T) {
	for i := range 256 {
		decodes(t, []byte{byte(i)})
		for j := range 256 {
			decodes(t, []byte{byte(i), byte(j)})
			decodes(t, []byte{1, 'p', byte(i), byte(j)})
			decodes(t, []byte{1, 'p', 1, 1, byte(i), byte(j)})
			decodes(t, []byte{1, 'p', 1, 2, byte(i), byte(j), 0, 0, 1, 16})
			decodes(t, []byte{1, 'p', 1, 1, 1, 0, 2, byte(i), byte(j)})
		}
	}
	r := rand.New(rand.NewSource(64))
	all := some()
	for range 60000 {
		b := slowEncode(all[r.Intn(len(all))])
		for range 1 + r.Intn(3) {
			i := r.Intn(min(len(b), 40))
			switch r.Intn(4) {
			case 0:
				b[i] ^= 1 << r.Intn(8)
			case 1:
				b[i] = byte(r.Intn(20))
			case 2:
				b = slices.Insert(b, i, byte(r.Intn(256)))
			case 3:
				b = slices.Delete(b, i, i+1)
			}
		}
		decodes(t, b)
	}
	for range 60000 {
		b := make([]byte, r.Intn(30))
		for i := range b {
			b[i] = byte(r.Intn(20))
		}
		copy(b, []byte{1, 'p', byte(r.Intn(17)), byte(r.Intn(6))})
		decodes(t, b)
	}
}

// W1: Decode ends and does not panic, of great rows too.
func TestDecodeGreat(t *testing.T) {
	for _, c := range []byte{0, 1, 'p', 0x80, 0xff} {
		decodes(t, bytes.Repeat([]byte{c}, 1<<20))
	}
	great := slices.Concat(unhex("01 70 00 01 01 00"), slowText(string(make([]byte, 1<<20))))
	refused(t, great, api.ErrForm)
	great = slices.Concat(unhex("01 70 00 01 01 00"), slowText("\x02"+string(slowText(long(1<<20)))))
	refused(t, great, api.ErrLong)
}

// P6.4: there and back; procedures have the same bytes just if they are the same.
func TestThereAndBack(t *testing.T) {
	seen := map[string]api.Proc{}
	tried := func(p api.Proc) {
		t.Helper()
		b := encoded(t, p)
		decoded(t, b, p, api.OK)
		if other, ok := seen[string(b)]; ok && !same(other, p) {
			t.Errorf("P6.4: %s and %s are both %x", told(p), told(other), b)
		}
		seen[string(b)] = p
	}
	for _, p := range some() {
		tried(p)
	}
	r := rand.New(rand.NewSource(65))
	for range 10000 {
		p := anyProc(r)
		if _, e := slowCheck(p); e == api.OK {
			tried(p)
		}
	}
}

// P6.4: another instruction, another name, other arguments: other bytes.
func TestUnlikeBytes(t *testing.T) {
	base := api.Proc{Name: "p", Args: 3, Code: []api.Instr{
		{Op: api.OpArg, A: 1, N: 1}, {Op: api.OpSet, A: 2, Value: num(1)}, {Op: api.OpSum, A: 3, B: 1, C: 2, N: 4},
		{Op: api.OpSkip, A: 1, B: 1, C: 2, N: 3}, {Op: api.OpTell, A: 3}, {Op: api.OpStop}}}
	was := encoded(t, base)
	unlike := 0
	turned := func(turn func(p *api.Proc)) {
		p := base
		p.Code = slices.Clone(base.Code)
		turn(&p)
		b, e := proc.Encode(p)
		if e != api.OK || same(p, base) {
			return
		}
		unlike++
		if bytes.Equal(b, was) {
			t.Errorf("P6.4: %s has the bytes of another", told(p))
		}
		decoded(t, b, p, api.OK)
	}
	for n := range 17 {
		turned(func(p *api.Proc) { p.Args = n })
		turned(func(p *api.Proc) { p.Name += string(rune('a' + n)) })
		turned(func(p *api.Proc) { p.Name = string(rune('A' + n)) })
		turned(func(p *api.Proc) { p.Code = append(p.Code, stops(n)...) })
		for i := range base.Code {
			for _, letter := range "ABCN" {
				turned(func(p *api.Proc) { *part(&p.Code[i], letter) = n })
			}
			turned(func(p *api.Proc) { p.Code[i].Op = n })
			turned(func(p *api.Proc) { p.Code[i].Value = num(int64(n)) })
			turned(func(p *api.Proc) { p.Code[i].Value = text(long(n)) })
			turned(func(p *api.Proc) { p.Code = slices.Insert(p.Code, i, plain(1+n%16)) })
			turned(func(p *api.Proc) { p.Code = slices.Delete(p.Code, i, i+1) })
		}
	}
	if unlike < 300 {
		t.Errorf("only %d were taken", unlike)
	}
}

// spared is a procedure whose code has spare room behind its end, with something in it.
func spared(p api.Proc) (api.Proc, []api.Instr) {
	room := append(slices.Clone(p.Code), api.Instr{Op: 99, A: 98, Value: text("behind the end")}, api.Instr{N: 97})
	p.Code = room[:len(p.Code)]
	return p, room
}

// P6.5, W6: Check and Encode leave the instructions as they are, behind their end too.
func TestHandedInStays(t *testing.T) {
	r := rand.New(rand.NewSource(66))
	all := append(some(), of(stops(70)...), of(api.Instr{Op: 99, A: -1, B: 300, C: 17, N: 1 << 40, Value: api.Value{Kind: 9, Int: 8, Text: long(300)}}))
	for range 2000 {
		all = append(all, anyProc(r))
	}
	for _, p := range all {
		q, room := spared(p)
		was := slices.Clone(room)
		proc.Check(q)
		proc.Encode(q)
		if !slices.Equal(room, was) {
			t.Errorf("P6.5: %s is changed", told(p))
		}
	}
}

// P6.5, W6: Decode leaves the bytes as they are, behind their end too, and what it answers does not hang on them.
func TestDecodeKeepsNothing(t *testing.T) {
	for _, p := range some() {
		const behind = "behind the end"
		room := append(encoded(t, p), behind...)
		was := slices.Clone(room)
		got, e := proc.Decode(room[:len(room)-len(behind)])
		if e != api.OK || !bytes.Equal(room, was) {
			t.Errorf("P6.5: %s: %v, or what was handed in is changed", told(p), e)
		}
		for i := range room {
			room[i] = ^room[i]
		}
		if !same(got, p) {
			t.Errorf("P6.5: %s has become %s", told(p), told(got))
		}
	}
}

// W6: what Encode answers is new memory each time, its spare room too.
func TestEncodeNewMemory(t *testing.T) {
	for _, p := range some() {
		first, second := encoded(t, p), encoded(t, p)
		want := slices.Clone(second)
		for i := range first[:cap(first)] {
			first[:cap(first)][i] ^= 0xff
		}
		if !bytes.Equal(second, want) || !bytes.Equal(encoded(t, p), want) {
			t.Errorf("W6: the bytes of %s are shared", told(p))
		}
	}
}

// W6: what Decode answers is new memory each time, its spare room too.
func TestDecodeNewMemory(t *testing.T) {
	for _, p := range some() {
		b := encoded(t, p)
		first, _ := proc.Decode(b)
		second, _ := proc.Decode(b)
		for i := range first.Code[:cap(first.Code)] {
			first.Code[:cap(first.Code)][i] = api.Instr{Op: 99, Value: text("turned")}
		}
		if third, _ := proc.Decode(b); !same(second, p) || !same(third, p) {
			t.Errorf("W6: what the bytes of %s say is shared", told(p))
		}
	}
}

// P6.5: memory that a text shares may be changed by its owner: the bytes answered ahead of that stay as they were.
func TestTextsNotShared(t *testing.T) {
	for _, n := range []int{1, 2, 20, 32} {
		room := []byte(long(n))
		s := unsafe.String(&room[0], n)
		p := api.Proc{Name: s, Code: []api.Instr{{Op: api.OpSet, Value: text(s)}}}
		b := encoded(t, p)
		clear(room)
		decoded(t, b, api.Proc{Name: long(n), Code: []api.Instr{{Op: api.OpSet, Value: text(long(n))}}}, api.OK)
	}
}

// P6.5: what was handed in is let go as soon as its owner lets it go, while the answers are still held.
func TestNotKept(t *testing.T) {
	type held struct {
		rows  []weak.Pointer[[256]byte]
		codes []weak.Pointer[[4]api.Instr]
		keep  []any
	}
	told := make(chan held)
	// A goroutine of its own, so that no stack of this one holds them any more.
	go func() {
		var h held
		row := func() []byte {
			p := new([256]byte)
			h.rows = append(h.rows, weak.Make(p))
			return p[:]
		}
		named := func() api.Proc {
			code := new([4]api.Instr)
			h.codes = append(h.codes, weak.Make(code))
			*code = [4]api.Instr(stops(4))
			name, value := row(), row()
			copy(name, long(32))
			code[1] = api.Instr{Op: api.OpSet, Value: text(unsafe.String(&value[0], 200))}
			return api.Proc{Name: unsafe.String(&name[0], 32), Code: code[:]}
		}
		keep := func(answer any, e api.Errno) { h.keep = append(h.keep, answer, e) }
		keep(proc.Check(named()))
		keep(proc.Encode(named()))
		bad := named()
		bad.Code[3].Op = 17
		keep(proc.Check(bad))
		keep(proc.Encode(bad))
		b := row()
		p := of(api.Instr{Op: api.OpSet, Value: text(long(200))})
		p.Name = long(20)
		copy(b, slowEncode(p))
		n := len(slowEncode(p))
		keep(proc.Decode(b[:n]))
		keep(proc.Decode(b))
		keep(proc.Decode(b[:n-1]))
		told <- h
	}()
	h := <-told
	for range 10 {
		runtime.GC()
	}
	for i, p := range h.rows {
		if p.Value() != nil {
			t.Errorf("P6.5: row %d is kept", i)
		}
	}
	for i, p := range h.codes {
		if p.Value() != nil {
			t.Errorf("P6.5: code %d is kept", i)
		}
	}
	runtime.KeepAlive(h.keep)
}
