package crew_test

import (
	"math/rand"
	"slices"
	"testing"

	"treadle/api"
	"treadle/proc"
)

// pool is texts that stand for keys, close to each other.
var pool = []string{"a", "a\x00", "a\x00\x00", "ab", "b", "ba", "c", "d", "e", "f", "\x00", "\xff", long(64)}

// names is names that random transactions define and call; the last two are none.
var names = []string{"one", "two", "three", "four", "five", "six", "", "9"}

// oneOf is an element of a list.
func oneOf[T any](r *rand.Rand, list []T) T { return list[r.Intn(len(list))] }

// anyValue is a value, a key mostly.
func anyValue(r *rand.Rand) api.Value {
	switch r.Intn(12) {
	case 0, 1:
		return nothing
	case 2:
		return text(long(oneOf(r, []int{0, 65, 256})))
	case 3, 4:
		return num(int64(r.Intn(9) - 4))
	}
	return text(oneOf(r, pool))
}

// anyInstr is an instruction over four registers that chapter 6 takes.
func anyInstr(r *rand.Rand, args, behind int) api.Instr {
	reg := func() int { return r.Intn(4) }
	for {
		in := api.Instr{Op: 1 + r.Intn(16)}
		switch in.Op {
		case api.OpSet:
			in.A, in.Value = reg(), anyValue(r)
		case api.OpArg:
			if args == 0 {
				continue
			}
			in.A, in.N = reg(), r.Intn(args)
		case api.OpGet, api.OpPut, api.OpNext:
			in.A, in.B = reg(), reg()
		case api.OpDel, api.OpTell:
			in.A = reg()
		case api.OpAdd, api.OpSub, api.OpMul, api.OpJoin:
			in.A, in.B, in.C = reg(), reg(), reg()
			if r.Intn(8) > 0 {
				continue
			}
		case api.OpNeed:
			in.B, in.C, in.N = reg(), reg(), 1+r.Intn(6)
			if r.Intn(4) > 0 {
				continue
			}
		case api.OpSkip:
			if behind == 0 {
				continue
			}
			in.A, in.B, in.C, in.N = 1+r.Intn(min(behind, 3)), reg(), reg(), 1+r.Intn(6)
		case api.OpSum, api.OpCount:
			in.A, in.B, in.C, in.N = reg(), reg(), reg(), 1+r.Intn(oneOf(r, []int{2, 4, 64}))
			if r.Intn(3) > 0 {
				continue
			}
		case api.OpStop:
			if r.Intn(10) > 0 {
				continue
			}
		}
		return in
	}
}

// anyProc is a procedure that does some of all that there is, now and then one that chapter 6 refuses.
func anyProc(r *rand.Rand) api.Proc {
	p := api.Proc{Name: oneOf(r, names), Args: r.Intn(3)}
	for i := range p.Args {
		p.Code = append(p.Code, api.Instr{Op: api.OpArg, A: i, N: i})
	}
	for i := p.Args; i < 4; i++ {
		p.Code = append(p.Code, api.Instr{Op: api.OpSet, A: i, Value: anyValue(r)})
	}
	n := len(p.Code) + r.Intn(5)
	for len(p.Code) < n {
		p.Code = append(p.Code, anyInstr(r, p.Args, n-1-len(p.Code)))
	}
	if r.Intn(12) == 0 {
		p.Code = append(p.Code, api.Instr{Op: api.OpTell, A: 16})
	}
	return p
}

// anyTxn is a call mostly; often one with as many arguments as wanted.
func anyTxn(r *rand.Rand) api.Txn {
	switch r.Intn(20) {
	case 0, 1:
		return api.Txn{Kind: api.TxnDefine, Proc: anyProc(r)}
	case 2:
		return api.Txn{Kind: r.Intn(5), Name: oneOf(r, names), Args: []api.Value{{Kind: 9}}, Proc: anyProc(r)}
	case 3:
		return api.Txn{Kind: api.TxnCall, Name: oneOf(r, names), Args: make([]api.Value, 14+r.Intn(5))}
	}
	t := api.Txn{Kind: api.TxnCall, Name: oneOf(r, names[:6])}
	for range r.Intn(3) {
		t.Args = append(t.Args, anyValue(r))
	}
	return t
}

// anyTxns is transactions; the first of them define some procedures.
func anyTxns(r *rand.Rand) []api.Txn {
	var txns []api.Txn
	for range r.Intn(8) {
		txns = append(txns, api.Txn{Kind: api.TxnDefine, Proc: anyProc(r)})
	}
	for range r.Intn(oneOf(r, []int{5, 20, 70})) {
		txns = append(txns, anyTxn(r))
	}
	return txns
}

// anyWorld is two stores with something in them, marked or not, each by chance.
func anyWorld(r *rand.Rand) world {
	w := empty()
	for _, key := range pool {
		if r.Intn(2) == 0 {
			w.values.Put(key, oneOf(r, []api.Value{num(1), num(2), text("a"), text("zz")}))
		}
	}
	for range r.Intn(9) {
		if p := anyProc(r); check(p) {
			w.procs.Put(p.Name, p)
		}
	}
	return w
}

func check(p api.Proc) bool {
	_, e := proc.Check(p)
	return e == api.OK
}

// mark marks the stores, each by chance.
func (w world) mark(n int) world {
	if n&1 != 0 {
		w.values.Mark()
	}
	if n&2 != 0 {
		w.procs.Mark()
	}
	return w
}

// follows is P11.6: the rounds' numbers, and how many outcomes there are.
func follows(t *testing.T, n int, outcomes []api.Outcome, rounds []int) {
	t.Helper()
	sum := 0
	for _, k := range rounds {
		if k < 1 {
			t.Errorf("P11.6: a round of %d", k)
		}
		sum += k
	}
	if sum != n || len(outcomes) != n {
		t.Errorf("P11.6: %d outcomes, %d in all rounds, of %d", len(outcomes), sum, n)
	}
}

// P11.1 to P11.6, P0.6: transactions of all kinds, by any number of workers, are what the chapter's words, done slowly, make of them, round by round and one by one.
func TestRandom(t *testing.T) {
	statuses, sizes := map[int]int{}, map[int]int{}
	for seed := range int64(4000) {
		w := anyWorld(rand.New(rand.NewSource(seed))).mark(int(seed % 4))
		s := slowOf(w)
		txns := anyTxns(rand.New(rand.NewSource(seed + 1<<20)))
		workers := oneOf(rand.New(rand.NewSource(seed)), hands)
		alone := slowOf(w)
		want, rows := s.run(txns)
		outcomes, rounds := w.run(txns, workers)
		follows(t, len(txns), outcomes, rounds)
		if saidOutcomes(outcomes) != saidOutcomes(want) || !slices.Equal(rounds, rows) {
			t.Fatalf("P11.2: seed %d by %d: %s, %v, not %s, %v", seed, workers, saidOutcomes(outcomes), rounds, saidOutcomes(want), rows)
		}
		if one := alone.oneByOne(txns); saidOutcomes(one) != saidOutcomes(outcomes) {
			t.Fatalf("P11.5: seed %d by %d: %s, not %s", seed, workers, saidOutcomes(outcomes), saidOutcomes(one))
		}
		if w.saidAll() != s.world().saidAll() || w.saidAll() != alone.world().saidAll() {
			t.Fatalf("P11.5: seed %d by %d: %s, not %s", seed, workers, w.saidAll(), s.world().saidAll())
		}
		for i := range outcomes {
			statuses[outcomes[i].Status]++
		}
		for _, n := range rounds {
			sizes[min(n, 10)]++
		}
	}
	for _, status := range []int{0, api.StatusDone, api.StatusNeed, api.StatusKind, api.StatusKey, api.StatusName, api.StatusArgs} {
		if statuses[status] < 100 {
			t.Errorf("of status %d there are %d", status, statuses[status])
		}
	}
	for n := 1; n <= 10; n++ {
		if sizes[n] < 100 {
			t.Errorf("of %d there are %d rounds", n, sizes[n])
		}
	}
}

// P11.4, W2: the same outcomes, rounds and stores by each number of workers, each time.
func TestWorkers(t *testing.T) {
	for seed := range int64(150) {
		txns := anyTxns(rand.New(rand.NewSource(seed)))
		want := ""
		for _, workers := range hands {
			for range 2 {
				w := anyWorld(rand.New(rand.NewSource(seed))).mark(int(seed % 4))
				outcomes, rounds := w.run(txns, workers)
				got := saidOutcomes(outcomes) + "\n" + saidRounds(rounds) + "\n" + w.saidAll() + "\n" + w.saidSlots()
				if want == "" {
					want = got
				}
				if got != want {
					t.Fatalf("P11.4: seed %d by %d:\n%s, not\n%s", seed, workers, got, want)
				}
			}
		}
	}
}

// P11.6, P0.6: at once, in parts and one by one, by any numbers of workers: the same outcomes, and the same stores.
func TestParts(t *testing.T) {
	for seed := range int64(600) {
		r := rand.New(rand.NewSource(seed))
		txns := anyTxns(rand.New(rand.NewSource(seed)))
		whole := anyWorld(rand.New(rand.NewSource(seed)))
		want, _ := whole.run(txns, oneOf(r, hands))
		for _, most := range []int{1, 3, 20} {
			w := anyWorld(rand.New(rand.NewSource(seed)))
			var got []api.Outcome
			for left := txns; len(left) > 0; {
				n := min(1+r.Intn(most), len(left))
				outcomes, rounds := w.run(left[:n], oneOf(r, hands))
				follows(t, n, outcomes, rounds)
				got = append(got, outcomes...)
				left = left[n:]
			}
			if saidOutcomes(got) != saidOutcomes(want) || w.saidAll() != whole.saidAll() {
				t.Fatalf("P11.6: seed %d, %d at most: %s, not %s", seed, most, saidOutcomes(got), saidOutcomes(want))
			}
		}
	}
}

// P11.2: each row of up to four of some transactions that have much to do with each other, on two states.
func TestAllShort(t *testing.T) {
	all := txnsOf(t, `p "b" 1; p "b" none; g "b"; next "a"; count "a" "b"; inc "b"; own "b" 9; move "b" "c"; def g 1: arg r0 0 / put r0 r0; def new 0: set r0 "b" / del r0; new`)
	var rows func(n int, each func([]api.Txn))
	rows = func(n int, each func([]api.Txn)) {
		each(nil)
		if n == 0 {
			return
		}
		for _, txn := range all {
			rows(n-1, func(l []api.Txn) { each(append(slices.Clip(l), txn)) })
		}
	}
	begins := []world{worldOf(t, ""), worldOf(t, "b=1 c=2")}
	workers := 0
	rows(3, func(txns []api.Txn) {
		for _, begin := range begins {
			s := slowOf(begin)
			w := s.world()
			workers = workers%4 + 1
			outcomes, rounds := w.run(txns, workers)
			want, rows := s.run(txns)
			if saidOutcomes(outcomes) != saidOutcomes(want) || !slices.Equal(rounds, rows) || w.saidAll() != s.world().saidAll() {
				t.Fatalf("P11.2: %v of %s: %s, %v, not %s, %v", txns, begin.said(), saidOutcomes(outcomes), rounds, saidOutcomes(want), rows)
			}
		}
	})
}
