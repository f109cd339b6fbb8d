package batch_test

import (
	"math"
	"slices"
	"strings"
	"testing"

	"treadle/api"
	"treadle/batch"
)

// P12.1: the chapter's own.
func TestCheckKnown(t *testing.T) {
	p := call("p")
	checked(t, api.Batch{}, api.ErrArg)
	checked(t, from(1, slices.Repeat([]api.Txn{p}, 65)...), api.ErrArg)
	checked(t, from(api.MaxNumber, p, p), api.ErrNumber)
	checked(t, from(1, call("p", text(long(257)))), api.ErrLong)
	checked(t, from(1, call("1p")), api.ErrName)
	checked(t, from(1, api.Txn{Kind: api.TxnCall, Proc: api.Proc{Name: "p"}, Name: "p"}), api.ErrForm)
	checked(t, from(1, api.Txn{Kind: api.TxnDefine, Proc: put2(), Name: "p"}), api.ErrForm)
	checked(t, from(1, call("p", num(7))), api.OK)
}

// P12.1: First at its edges, and outside of them.
func TestFirst(t *testing.T) {
	for first, want := range map[int]api.Errno{
		math.MinInt: api.ErrArg, -api.MaxNumber: api.ErrArg, -1: api.ErrArg, 0: api.ErrArg,
		1: api.OK, 2: api.OK, 127: api.OK, 128: api.OK, 1 << 40: api.OK, api.MaxNumber - 1: api.OK, api.MaxNumber: api.OK,
		api.MaxNumber + 1: api.ErrArg, api.MaxNumber + 2: api.ErrArg, 1 << 50: api.ErrArg, math.MaxInt: api.ErrArg,
	} {
		checked(t, from(first, call("p")), want)
		checked(t, from(first, define(put2())), want)
		checked(t, from(first), api.ErrArg)
		if want == api.ErrArg { // ahead of ErrNumber, and of what a transaction says
			checked(t, from(first, call("p"), call("p")), api.ErrArg)
			checked(t, from(first, call("1p")), api.ErrArg)
			checked(t, from(first, slices.Repeat([]api.Txn{call("p")}, 64)...), api.ErrArg)
		}
	}
}

// P12.1: how many transactions there are, and how many about the greatest number.
func TestHowMany(t *testing.T) {
	checked(t, api.Batch{First: 1}, api.ErrArg)
	checked(t, api.Batch{First: 1, Txns: []api.Txn{}}, api.ErrArg)
	for n := 1; n <= 64; n++ {
		all := slices.Repeat([]api.Txn{call("p")}, n)
		checked(t, from(1, all...), api.OK)
		checked(t, from(api.MaxNumber-n, all...), api.OK)
		checked(t, from(api.MaxNumber-n+1, all...), api.OK)
		last := api.ErrNumber
		if n == 1 {
			last = api.ErrArg // First itself is above the greatest number
		}
		checked(t, from(api.MaxNumber-n+2, all...), last)
		checked(t, from(api.MaxNumber-n+2, append([]api.Txn{{}}, all[1:]...)...), last)
		if n > 1 {
			checked(t, from(api.MaxNumber, all...), api.ErrNumber)
		}
	}
	for _, n := range []int{65, 66, 128, 1000} {
		all := slices.Repeat([]api.Txn{call("p")}, n)
		checked(t, from(1, all...), api.ErrArg)
		checked(t, from(api.MaxNumber, all...), api.ErrArg)
		checked(t, from(1, slices.Repeat([]api.Txn{call("1p")}, n)...), api.ErrArg)
		checked(t, from(1, append(all[:64:64], make([]api.Txn, n-64)...)...), api.ErrArg)
	}
}

// P12.1: what a transaction may be, alone and among others.
func TestGoodTxns(t *testing.T) {
	good := goodTxns()
	for i, x := range good {
		checked(t, from(1, x), api.OK)
		checked(t, from(9, x, good[(i+5)%len(good)], x), api.OK)
	}
	checked(t, from(1, good...), api.OK)
}

// P12.1: each fault of a transaction, at the first one, at a later one, at the last one.
func TestBadTxns(t *testing.T) {
	plain := []api.Txn{call("p", num(1)), define(put2())}
	for _, x := range badTxns() {
		refusedBatch(t, from(1, x.t), x.want)
		for i := range 3 {
			refusedBatch(t, from(1, slices.Insert(slices.Clone(plain), i, x.t)...), x.want)
		}
		whole := slices.Repeat(plain, 32)
		whole[63] = x.t
		refusedBatch(t, from(1, whole...), x.want)
	}
}

// P12.1: of two that offend the first one counts, whichever faults they have.
func TestFirstOffender(t *testing.T) {
	bad := badTxns()
	for _, x := range bad {
		for _, y := range bad {
			if x.want == y.want {
				continue
			}
			if e := batch.Check(from(1, call("p"), x.t, define(put2()), y.t)); e != x.want {
				t.Errorf("P12.1: %s ahead of %s: %v, not %v", told(from(1, x.t)), told(from(1, y.t)), e, x.want)
			}
		}
	}
}

// P12.1: each byte in a call's name, first and behind; each length of it.
func TestNames(t *testing.T) {
	for c := range 256 {
		for _, name := range []string{string([]byte{byte(c)}), string([]byte{byte(c), 'p'}), string([]byte{'p', byte(c)}), "p-q." + string([]byte{byte(c)}) + "9"} {
			want := api.OK
			if !slowName(name) {
				want = api.ErrName
			}
			checked(t, from(1, call(name)), want)
		}
	}
	for n := range 100 {
		want := api.OK
		if n < 1 || n > 32 {
			want = api.ErrName
		}
		checked(t, from(1, call(strings.Repeat("Z", n))), want)
	}
}

// P12.1: how many arguments a call has; the first one that is refused counts.
func TestArguments(t *testing.T) {
	for n := range 40 {
		want := api.OK
		if n > 16 {
			want = api.ErrLong
		}
		checked(t, from(1, call("p", make([]api.Value, n)...)), want)
		checked(t, from(1, call("p", slices.Repeat([]api.Value{text(long(256))}, n)...)), want)
	}
	bad := badValues()
	for n := 1; n <= 16; n++ {
		for i := range n {
			for k, x := range bad {
				args := slices.Repeat([]api.Value{num(7)}, n)
				args[n-1] = bad[(k+3)%len(bad)].v
				args[i] = x.v
				refusedBatch(t, from(1, call("p", num(1)), call("p", args...)), x.want)
			}
		}
	}
}

// P12.1: all choices of a transaction's fields among a few, against the chapter's words.
func TestAllFields(t *testing.T) {
	for _, kind := range []int{0, 1, 2, 3} {
		for _, p := range []api.Proc{{}, {Name: "p"}, {Name: "1"}, {Args: 1}, {Name: "p", Args: 17}, {Code: stops(1)}, of(stops(65)...), of(api.Instr{}), put2()} {
			for _, name := range []string{"", "p", "1p", long(33)} {
				for _, args := range [][]api.Value{nil, {}, {num(7)}, {{Kind: 3}}, {text(long(257)), {Kind: 3}}, make([]api.Value, 16), make([]api.Value, 17)} {
					x := api.Txn{Kind: kind, Proc: p, Name: name, Args: args}
					checked(t, from(1, x), slowTxn(x))
					checked(t, from(1, x, call("1p")), slowCheck(from(1, x, call("1p"))))
				}
			}
		}
	}
}

// P12.1: random batches against the chapter's words.
func TestCheckAgainstWords(t *testing.T) {
	r := chanceOf(12)
	taken := 0
	for range 20000 {
		b := r.batch()
		want := slowCheck(b)
		checked(t, b, want)
		if want == api.OK {
			taken++
		}
	}
	if taken < 5000 || taken > 19000 {
		t.Errorf("%d are taken", taken)
	}
}
