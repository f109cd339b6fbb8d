package exec_test

import (
	"math"
	"math/rand"
	"slices"
	"strings"
	"testing"

	"treadle/api"
	"treadle/exec"
	"treadle/proc"
	"treadle/zigzag"
)

// pool is texts that stand for keys, close to each other, and some that are none.
var pool = []string{"a", "a\x00", "a\x00\x00", "ab", "b", "ba", "c", "d", "e", "f", "\x00", "\xff", long(63), long(64)}

// oneOf is an element of a list.
func oneOf[T any](r *rand.Rand, list []T) T { return list[r.Intn(len(list))] }

// anyValue is a value, a key mostly.
func anyValue(r *rand.Rand) api.Value {
	switch r.Intn(20) {
	case 0:
		return nothing
	case 1:
		return text("")
	case 2:
		return text(long(oneOf(r, []int{65, 128, 192, 255, 256})))
	case 3:
		return num(oneOf(r, []int64{math.MaxInt64, math.MinInt64, math.MaxInt64 / 2}))
	case 4, 5, 6:
		return num(int64(r.Intn(9) - 4))
	}
	return text(oneOf(r, pool))
}

// anyState is a state of some keys of the pool; texts in it are rare, if so wished.
func anyState(r *rand.Rand, texts int) state {
	var s state
	for _, key := range pool {
		switch {
		case r.Intn(2) == 0:
		case r.Intn(100) < texts:
			s = s.with(key, text(oneOf(r, pool)))
		case r.Intn(20) == 0:
			s = s.with(key, num(math.MaxInt64-int64(r.Intn(3))))
		default:
			s = s.with(key, num(int64(r.Intn(9)-4)))
		}
	}
	return s
}

// anyInstr is an instruction over some registers that chapter 6 takes where so many stand behind it.
func anyInstr(r *rand.Rand, args, behind int) api.Instr {
	reg := func() int { return r.Intn(8) }
	for {
		in := api.Instr{Op: 1 + r.Intn(16)}
		switch in.Op {
		case api.OpSet:
			in.A, in.Value = reg(), anyValue(r)
		case api.OpArg:
			if args == 0 {
				continue
			}
			in.A, in.N = reg(), r.Intn(args)
		case api.OpGet, api.OpPut, api.OpNext:
			in.A, in.B = reg(), reg()
		case api.OpDel, api.OpTell:
			in.A = reg()
		case api.OpAdd, api.OpSub, api.OpMul, api.OpJoin:
			in.A, in.B, in.C = reg(), reg(), reg()
			if in.Op != api.OpJoin && r.Intn(4) > 0 {
				continue
			}
		case api.OpNeed:
			in.B, in.C, in.N = reg(), reg(), 1+r.Intn(6)
			if r.Intn(8) > 0 {
				continue
			}
		case api.OpSkip:
			if behind == 0 {
				continue
			}
			in.A, in.B, in.C, in.N = 1+r.Intn(min(behind, 3)), reg(), reg(), 1+r.Intn(6)
		case api.OpSum, api.OpCount:
			in.A, in.B, in.C, in.N = reg(), reg(), reg(), 1+r.Intn(oneOf(r, []int{4, 9, 64}))
		case api.OpStop:
			if r.Intn(20) > 0 {
				continue
			}
		}
		return in
	}
}

// anyCall is a procedure and its arguments; its registers have something to begin with, mostly.
func anyCall(r *rand.Rand) (api.Proc, []api.Value) {
	p := api.Proc{Name: "p", Args: r.Intn(4)}
	for i := range 8 {
		if r.Intn(4) > 0 {
			p.Code = append(p.Code, api.Instr{Op: api.OpSet, A: i, Value: anyValue(r)})
		}
	}
	n := len(p.Code) + r.Intn(oneOf(r, []int{4, 12, 57}))
	for len(p.Code) < n {
		p.Code = append(p.Code, anyInstr(r, p.Args, n-1-len(p.Code)))
	}
	var args []api.Value
	for range p.Args {
		args = append(args, anyValue(r))
	}
	return p, args
}

// follows is what holds of every Effect.
func follows(t *testing.T, e api.Effect) {
	t.Helper()
	if e.Outcome.Status != api.StatusDone && (len(e.Writes) > 0 || len(e.Outcome.Told) > 0) {
		t.Errorf("P10.6: given up, and yet: %s", said(e))
	}
	if len(e.Writes) > api.MaxCode {
		t.Errorf("P10.7: %d writes", len(e.Writes))
	}
	for i, w := range e.Writes {
		if len(w.Key) < 1 || len(w.Key) > 64 || i > 0 && e.Writes[i-1].Key >= w.Key {
			t.Errorf("P10.7: writes %s", said(e))
		}
	}
	for _, l := range e.Looks {
		if l.From > l.To && l.To != "" {
			t.Errorf("P10.7: looks %s", said(e))
		}
	}
}

// P10.1 to P10.5, P10.7: calls of all kinds are what the chapter's words, done slowly, make of them.
func TestRandom(t *testing.T) {
	ends := map[int]int{}
	for seed := range int64(30000) {
		r := rand.New(rand.NewSource(seed))
		s := anyState(r, 5)
		p, args := anyCall(r)
		if at, e := proc.Check(p); e != api.OK {
			t.Fatalf("seed %d: %d, %v", seed, at, e)
		}
		code, given := slices.Clone(p.Code), slices.Clone(args)
		e := agrees(t, s, p, args)
		follows(t, e)
		ends[e.Outcome.Status]++
		w := &watched{state: s}
		if again := exec.Run(w, p, args); !same(e, again) {
			t.Errorf("W2: %s, and then %s", said(e), said(again))
		}
		w.within(t, e)
		if !slices.Equal(code, p.Code) || !slices.Equal(given, args) {
			t.Errorf("P10.5: what was handed in is changed")
		}
		if t.Failed() {
			t.Fatalf("seed %d", seed)
		}
	}
	for status := api.StatusDone; status <= api.StatusKey; status++ {
		if ends[status] < 50 {
			t.Errorf("of status %d there are %d calls", status, ends[status])
		}
	}
}

// unlike is a state that is like another one within these looks, and anything elsewhere.
func unlike(r *rand.Rand, s state, looks []api.Span) state {
	var out state
	other := anyState(r, 30)
	for _, key := range pool {
		from := other
		if covered(looks, key) {
			from = s
		}
		if v, has := from.Get(key); has {
			out = out.with(key, v)
		}
	}
	return out
}

// P10.6: the same call on two states that are alike within its looks and unlike elsewhere has the same Effect.
func TestAlike(t *testing.T) {
	differ, gaveUp := 0, 0
	for seed := range int64(10000) {
		r := rand.New(rand.NewSource(seed))
		s := anyState(r, 5)
		p, args := anyCall(r)
		e := exec.Run(s, p, args)
		for range 4 {
			other := unlike(r, s, e.Looks)
			if slices.Equal(s, other) {
				continue
			}
			differ++
			if e.Outcome.Status != api.StatusDone {
				gaveUp++
			}
			if again := exec.Run(other, p, args); !same(e, again) {
				t.Fatalf("P10.6: seed %d: %s of %v, and %s of %v", seed, said(e), s, said(again), other)
			}
		}
	}
	if differ < 1000 || gaveUp < 500 {
		t.Errorf("only %d states differ, %d of calls that gave up", differ, gaveUp)
	}
}

// P10.4, P10.6: each kind of look just where it begins and ends: what is changed within makes a difference here, what is changed beside it makes none.
func TestLookEdges(t *testing.T) {
	for _, c := range []struct{ code, within, beside string }{
		{`set r0 "c" / get r1 r0 / tell r1`, "c", "b c\x00 d"},
		{`set r0 "b" / next r1 r0 / tell r1`, "b\x00 bb c", "a b c\x00 d"},
		{`next r1 r0 / tell r1`, "A a", "a\x00 b"},
		{`set r0 "e" / next r1 r0 / tell r1`, "e\x00 f \xff", "a e"},
		{`set r0 "b" / set r1 "d" / count r2 r0 r1 64 / tell r2`, "b b\x00 c cc d", "a a\x00 d\x00 e"},
		{`set r0 "b" / set r1 "d" / sum r2 r0 r1 1 / tell r2`, "b", "a b\x00 c d e"},
		{`set r0 "aa" / sum r2 r0 r1 1 / tell r2`, "aa b", "a b\x00 c"},
		{`sum r2 r0 r1 64`, "A a\x00 c", "c\x00 d e"},
	} {
		s, p := stateOf(`a=1 b=2 c="x" e=5`), codeOf(t, 0, c.code)
		e := exec.Run(s, p, nil)
		run := func(key string) bool {
			v := text("new")
			if _, has := s.Get(key); has {
				v = nothing
			}
			return same(e, exec.Run(s.with(key, v), p, nil))
		}
		for _, key := range strings.Split(c.within, " ") {
			if run(key) || !covered(e.Looks, key) {
				t.Errorf("P10.4: %s: %q makes no difference: %s", c.code, key, said(e))
			}
		}
		for _, key := range strings.Split(c.beside, " ") {
			if !run(key) || covered(e.Looks, key) {
				t.Errorf("P10.6: %s: %q makes a difference: %s", c.code, key, said(e))
			}
		}
	}
}

// P10.5: a store of chapter 9 is a View, marked or not, and stays as it is.
func TestStore(t *testing.T) {
	for seed := range int64(2000) {
		r := rand.New(rand.NewSource(seed))
		s := anyState(r, 5)
		store := zigzag.New[api.Value]()
		for _, e := range s {
			store.Put(e.Key, e.Value)
		}
		if seed%2 == 0 {
			store.Mark()
		}
		p, args := anyCall(r)
		if e, want := exec.Run(store, p, args), slowRun(s, p, args); !same(e, want) {
			t.Fatalf("seed %d: %s, not %s", seed, said(e), said(want))
		}
		var left state
		for key, v := range store.Range("", "") {
			left = append(left, api.Entry{Key: key, Value: v})
		}
		if !slices.Equal(left, s) {
			t.Fatalf("P10.5: seed %d: %v is left of %v", seed, left, s)
		}
	}
}

// W1: calls of all kinds of Views that do not hold together end, and none panics.
func TestRandomOddViews(t *testing.T) {
	views := odds()
	for seed := range int64(10000) {
		r := rand.New(rand.NewSource(seed))
		p, args := anyCall(r)
		v := oneOf(r, views)
		e := exec.Run(v, p, args)
		if again := exec.Run(v, p, args); !same(e, again) {
			t.Fatalf("W2: seed %d: %s, and then %s", seed, said(e), said(again))
		}
		follows(t, e)
	}
}
