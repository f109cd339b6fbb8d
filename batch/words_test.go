package batch_test

import (
	"bytes"
	"encoding/hex"
	"math"
	"slices"
	"strconv"
	"strings"
	"testing"

	"treadle/api"
	"treadle/batch"
)

var nothing = api.Value{}

func num(n int64) api.Value { return api.Value{Kind: api.KindInt, Int: n} }

func text(s string) api.Value { return api.Value{Kind: api.KindText, Text: s} }

// long is a text of n bytes that could stand as a name.
func long(n int) string { return strings.Repeat("x", n) }

func call(name string, args ...api.Value) api.Txn {
	return api.Txn{Kind: api.TxnCall, Name: name, Args: args}
}

func define(p api.Proc) api.Txn { return api.Txn{Kind: api.TxnDefine, Proc: p} }

func from(first int, txns ...api.Txn) api.Batch { return api.Batch{First: first, Txns: txns} }

func of(code ...api.Instr) api.Proc { return api.Proc{Name: "p", Code: code} }

func stops(n int) []api.Instr { return slices.Repeat([]api.Instr{{Op: api.OpStop}}, n) }

func put2() api.Proc {
	return api.Proc{Name: "put2", Args: 2, Code: []api.Instr{
		{Op: api.OpArg, A: 0, N: 0},
		{Op: api.OpArg, A: 1, N: 1},
		{Op: api.OpPut, A: 0, B: 1},
		{Op: api.OpStop},
	}}
}

// procedures is some that chapter 6's Check takes.
func procedures() []api.Proc {
	return []api.Proc{
		{Name: "p"},
		{Name: "p", Code: []api.Instr{}},
		{Name: long(32), Args: 16},
		put2(),
		of(stops(64)...),
		of(api.Instr{Op: api.OpSet, A: 15, Value: text(long(256))}, api.Instr{Op: api.OpSet, Value: num(math.MinInt64)}, api.Instr{Op: api.OpSet}),
		of(api.Instr{Op: api.OpSkip, A: 1, B: 2, C: 3, N: 4}, api.Instr{Op: api.OpSum, A: 1, B: 2, C: 3, N: 64}),
	}
}

type badProc struct {
	p    api.Proc
	want api.Errno
}

// badProcs is procedures that chapter 6's Check refuses, and its error.
func badProcs() []badProc {
	return []badProc{
		{api.Proc{}, api.ErrName},
		{api.Proc{Name: "1p"}, api.ErrName},
		{api.Proc{Name: long(33)}, api.ErrName},
		{api.Proc{Name: "p q"}, api.ErrName},
		{api.Proc{Args: -1, Code: stops(65)}, api.ErrName},
		{api.Proc{Name: "p", Args: -1}, api.ErrArg},
		{api.Proc{Name: "p", Args: 17, Code: stops(65)}, api.ErrArg},
		{of(stops(65)...), api.ErrLong},
		{of(api.Instr{Op: api.OpSet, Value: text(long(257))}), api.ErrLong},
		{of(api.Instr{}), api.ErrOp},
		{of(api.Instr{Op: 17}), api.ErrOp},
		{of(api.Instr{Op: api.OpStop, A: 1}), api.ErrOp},
		{of(api.Instr{Op: api.OpTell, A: 16}), api.ErrOp},
		{of(api.Instr{Op: api.OpSet, Value: api.Value{Kind: 3}}), api.ErrKind},
		{of(stops(1)[0], api.Instr{Op: api.OpSet, Value: api.Value{Kind: 1, Text: "x"}}), api.ErrKind},
	}
}

type badValue struct {
	v    api.Value
	want api.Errno
}

// badValues is arguments that chapter 5's Check refuses, and its error.
func badValues() []badValue {
	return []badValue{
		{api.Value{Kind: 3}, api.ErrKind},
		{api.Value{Kind: -1}, api.ErrKind},
		{api.Value{Kind: 257, Int: 1}, api.ErrKind},
		{api.Value{Int: 1}, api.ErrKind},
		{api.Value{Text: "x"}, api.ErrKind},
		{api.Value{Kind: api.KindInt, Int: 5, Text: "x"}, api.ErrKind},
		{api.Value{Kind: api.KindText, Int: 5, Text: "x"}, api.ErrKind},
		{api.Value{Kind: api.KindText, Int: 5, Text: long(257)}, api.ErrKind},
		{text(long(257)), api.ErrLong},
		{text(long(1 << 20)), api.ErrLong},
	}
}

type badTxn struct {
	t    api.Txn
	want api.Errno
}

// badTxns is transactions that are none, each with its error; of those with several faults the first one counts.
func badTxns() []badTxn {
	seventeen := slices.Repeat([]api.Value{num(7)}, 17)
	var out []badTxn
	for _, kind := range []int{0, 3, -1, 257, 258, math.MaxInt, math.MinInt} {
		out = append(out, badTxn{api.Txn{Kind: kind}, api.ErrArg},
			badTxn{api.Txn{Kind: kind, Name: "p"}, api.ErrArg},
			badTxn{api.Txn{Kind: kind, Proc: put2()}, api.ErrArg},
			badTxn{api.Txn{Kind: kind, Proc: api.Proc{Args: -1}, Name: "1p", Args: seventeen}, api.ErrArg})
	}
	for _, x := range badProcs() {
		out = append(out, badTxn{define(x.p), x.want},
			badTxn{api.Txn{Kind: api.TxnDefine, Proc: x.p, Name: "p"}, api.ErrForm},
			badTxn{api.Txn{Kind: api.TxnDefine, Proc: x.p, Args: []api.Value{{Kind: 3}}}, api.ErrForm})
	}
	for _, d := range []api.Txn{
		{Proc: put2(), Name: "p"}, {Proc: put2(), Name: "put2"}, {Proc: put2(), Name: "\x00"}, {Proc: put2(), Name: long(1 << 16)},
		{Proc: put2(), Args: []api.Value{nothing}}, {Proc: put2(), Args: seventeen}, {Proc: put2(), Args: []api.Value{{Kind: 3}}},
		{Proc: put2(), Name: "p", Args: []api.Value{num(1)}},
	} {
		d.Kind = api.TxnDefine
		out = append(out, badTxn{d, api.ErrForm})
	}
	for _, p := range []api.Proc{{Name: "p"}, {Name: "\x00"}, {Args: 1}, {Args: -1}, {Args: math.MinInt}, {Code: make([]api.Instr, 1)}, {Code: stops(65)}, put2()} {
		out = append(out, badTxn{api.Txn{Kind: api.TxnCall, Proc: p, Name: "p"}, api.ErrForm},
			badTxn{api.Txn{Kind: api.TxnCall, Proc: p}, api.ErrForm},
			badTxn{api.Txn{Kind: api.TxnCall, Proc: p, Name: "1p", Args: append(seventeen, api.Value{Kind: 3})}, api.ErrForm})
	}
	for _, name := range []string{"", "1p", "-p", "_", ".p", "p ", "p\n", "p\x00", "p/q", "pä", "ä", "\xff", "p{", "p@", "p[", "p`", long(33), long(1 << 16)} {
		out = append(out, badTxn{call(name), api.ErrName}, badTxn{call(name, seventeen...), api.ErrName}, badTxn{call(name, api.Value{Kind: 3}), api.ErrName})
	}
	for _, v := range badValues() {
		out = append(out, badTxn{call("p", v.v), v.want}, badTxn{call("p", num(1), text("a"), v.v, nothing), v.want},
			badTxn{call("p", append(seventeen, v.v)...), api.ErrLong}, badTxn{call("p", append([]api.Value{v.v}, seventeen...)...), api.ErrLong})
	}
	return append(out, badTxn{call("p", seventeen...), api.ErrLong}, badTxn{call("p", make([]api.Value, 1000)...), api.ErrLong})
}

// goodTxns is transactions that Check takes.
func goodTxns() []api.Txn {
	var out []api.Txn
	for _, p := range procedures() {
		out = append(out, define(p))
	}
	d := define(put2())
	d.Args = []api.Value{}
	c := call("p", num(7))
	c.Proc.Code = []api.Instr{}
	out = append(out, d, c, call("p"), api.Txn{Kind: api.TxnCall, Name: "p", Args: []api.Value{}})
	for _, name := range []string{"p", "Z", "a", "z", "A", "p9_-.", long(32)} {
		out = append(out, call(name, nothing, num(-1), text("ab")))
	}
	for n := range 17 {
		out = append(out, call("p", slices.Repeat([]api.Value{num(int64(n) << n)}, n)...))
	}
	return append(out, call("p", text(""), text(long(256)), num(math.MaxInt64), num(math.MinInt64), nothing, text("\x00\xff")))
}

// some is batches that Encode takes.
func some() []api.Batch {
	good := goodTxns()
	out := []api.Batch{from(1, good...), from(api.MaxNumber-len(good)+1, good...), from(api.MaxNumber, good[0])}
	for i, t := range good {
		out = append(out, from(1, t), from(127+i, t, good[(i*7+3)%len(good)], t))
	}
	return append(out, from(300, slices.Repeat([]api.Txn{call("p")}, 64)...))
}

// sized is a batch of calls whose bytes are so many, 63000 to 67000.
func sized(t *testing.T, n int) api.Batch {
	t.Helper()
	full := call("p", slices.Repeat([]api.Value{text(long(256))}, 16)...)
	b := from(1, slices.Repeat([]api.Txn{full}, 15)...)
	rest := call("p")
	for len(slowBytes(b))+len(slowBytes(from(1, rest)))+263 < n {
		rest.Args = append(rest.Args, text(long(256)))
	}
	for i := range 257 {
		whole := from(1, append(slices.Clone(b.Txns), rest, call("p", text(long(i))))...)
		if len(slowBytes(whole)) == n {
			return whole
		}
	}
	t.Fatalf("no batch of %d bytes is made", n)
	return api.Batch{}
}

func unhex(s string) []byte {
	b, err := hex.DecodeString(strings.ReplaceAll(s, " ", ""))
	if err != nil {
		panic(err)
	}
	return b
}

// sameTxn tells whether two transactions are the same; a list without an element is as good as none.
func sameTxn(a, b api.Txn) bool {
	return a.Kind == b.Kind && a.Name == b.Name && slices.Equal(a.Args, b.Args) &&
		a.Proc.Name == b.Proc.Name && a.Proc.Args == b.Proc.Args && slices.Equal(a.Proc.Code, b.Proc.Code)
}

func same(a, b api.Batch) bool {
	return a.First == b.First && slices.EqualFunc(a.Txns, b.Txns, sameTxn)
}

// told is a batch in few words.
func told(b api.Batch) string {
	var s strings.Builder
	s.WriteString(strconv.Itoa(b.First) + ":")
	for _, t := range b.Txns[:min(len(b.Txns), 4)] {
		s.WriteString(" kind " + strconv.Itoa(t.Kind) + " proc " + strconv.QuoteToASCII(t.Proc.Name[:min(len(t.Proc.Name), 40)]) +
			" of " + strconv.Itoa(len(t.Proc.Code)) + " name " + strconv.QuoteToASCII(t.Name[:min(len(t.Name), 40)]) + " args " + strconv.Itoa(len(t.Args)) + ";")
	}
	return s.String() + " " + strconv.Itoa(len(b.Txns)) + " in all"
}

// checked asks Check.
func checked(t *testing.T, b api.Batch, want api.Errno) {
	t.Helper()
	if e := batch.Check(b); e != want {
		t.Errorf("P12.1: Check(%s): %v, not %v", told(b), e, want)
	}
	if e := slowCheck(b); e != want {
		t.Errorf("the words say %v of %s, not %v", e, told(b), want)
	}
}

// refusedBatch asks Check and Encode of what both refuse.
func refusedBatch(t *testing.T, b api.Batch, want api.Errno) {
	t.Helper()
	checked(t, b, want)
	if data, e := batch.Encode(b); e != want || len(data) > 0 {
		t.Errorf("P12.2, W3: Encode(%s): %d bytes, %v, not %v", told(b), len(data), e, want)
	}
}

// encoded is the bytes of a batch.
func encoded(t *testing.T, b api.Batch) []byte {
	t.Helper()
	data, e := batch.Encode(b)
	if e != api.OK {
		t.Fatalf("P12.2: Encode(%s): %v", told(b), e)
	}
	return data
}

// decoded asks Decode, and holds its answer against what is wanted; beside an error it is zero.
func decoded(t *testing.T, data []byte, want api.Batch, err api.Errno) {
	t.Helper()
	b, e := batch.Decode(data)
	if e != err || !same(b, want) || e != api.OK && len(b.Txns) > 0 {
		t.Errorf("P12.3: Decode(%x), %d bytes: %s, %v, not %s, %v", data[:min(len(data), 60)], len(data), told(b), e, told(want), err)
	}
}

// refused is bytes that Decode refuses.
func refused(t *testing.T, data []byte, err api.Errno) {
	t.Helper()
	decoded(t, data, api.Batch{}, err)
}

// agrees holds Decode against the chapter's words; what it takes is what Encode says of it.
func agrees(t *testing.T, data []byte) api.Errno {
	t.Helper()
	want, err := slowDecode(data)
	decoded(t, data, want, err)
	if err != api.OK {
		return err
	}
	if again, e := batch.Encode(want); e != api.OK || !bytes.Equal(again, data) {
		t.Errorf("P12.4: %x comes back as %x, %v", data, again, e)
	}
	return err
}
