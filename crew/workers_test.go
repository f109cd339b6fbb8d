package crew_test

import (
	"math"
	"runtime"
	"runtime/metrics"
	"slices"
	"strconv"
	"testing"
	"time"

	"treadle/api"
)

// puts is so many transactions that write a key each, none of which looks at anything.
func puts(n int) []api.Txn {
	var txns []api.Txn
	for i := range n {
		txns = append(txns, api.Txn{Kind: api.TxnCall, Name: "p", Args: []api.Value{text(strconv.Itoa(i)), num(int64(i))}})
	}
	return txns
}

// calls is so many calls of one procedure with one argument.
func calls(name string, arg api.Value, n int) []api.Txn {
	return slices.Repeat([]api.Txn{{Kind: api.TxnCall, Name: name, Args: []api.Value{arg}}}, n)
}

// P11.4: when Run has answered, no goroutine is left of it, however its rounds ended.
func TestNoGoroutineLeft(t *testing.T) {
	rows := [][]api.Txn{
		nil, puts(1), puts(300), calls("inc", text("a"), 50), calls("g", text("a"), 100),
		slices.Concat(puts(100), calls("next", text(""), 60), calls("next", text("9"), 60), puts(30)),
	}
	before := runtime.NumGoroutine()
	for _, workers := range hands {
		for _, txns := range rows {
			w := worldOf(t, "a=1")
			w.run(txns, workers)
			// One that has told the WaitGroup that it is done may need a moment to go.
			for range 10000 {
				if runtime.NumGoroutine() <= before {
					break
				}
				runtime.Gosched()
				time.Sleep(time.Microsecond)
			}
			if n := runtime.NumGoroutine(); n > before {
				t.Fatalf("P11.4: %d goroutines, %d ahead of it", n, before)
			}
		}
	}
}

// created is how many goroutines there have ever been.
func created(t *testing.T) uint64 {
	sample := []metrics.Sample{{Name: "/sched/goroutines-created:goroutines"}}
	metrics.Read(sample)
	if sample[0].Value.Kind() != metrics.KindUint64 {
		t.Skip("this Go does not count them")
	}
	return sample[0].Value.Uint64()
}

// P11.4: so many goroutines reckon, if there is enough for them to do, and not one a transaction.
func TestSoManyGoroutines(t *testing.T) {
	for _, workers := range []int{-1, 0, 1, 2, 7, api.MaxWorkers, 99, math.MaxInt} {
		want := uint64(min(max(workers, 1), api.MaxWorkers))
		least := uint64(math.MaxUint64)
		// Somebody else may start some meanwhile, but not each time.
		for range 20 {
			w := worldOf(t, "")
			before := created(t)
			w.run(puts(200), workers)
			least = min(least, created(t)-before)
		}
		// A round may be reckoned in some parts, each by so many anew.
		if least < want || least > 10*want {
			t.Errorf("P11.4: %d goroutines by %d workers", least, workers)
		}
	}
}

// P11.6: transactions that look at nothing but what none of them writes go in one round, however many; of all kinds.
func TestOneRound(t *testing.T) {
	odd := append(txnsOf(t, `g "a"; next "x"; count "x" "z"; own "0" 1; zz; kind 7; def new 0:; def new 1:; s; p "0" none; d "1"; sum none "/"; gives "x"`),
		api.Txn{Kind: api.TxnDefine, Proc: api.Proc{Name: "g", Args: -1}})
	for _, workers := range hands {
		var txns []api.Txn
		for range 20 {
			txns = append(append(txns, puts(30)...), odd...)
		}
		w := worldOf(t, "a=1 y=2")
		outcomes, rounds := w.run(txns, workers)
		follows(t, len(txns), outcomes, rounds)
		if len(rounds) != 1 {
			t.Errorf("P11.6: rounds %v", rounds)
		}
	}
}

// P11.6, W1: many transactions, all in one round, each in a round of its own, and some in each.
func TestMany(t *testing.T) {
	const n = 10000
	for _, workers := range []int{1, 3, api.MaxWorkers} {
		w := worldOf(t, "a=0")
		outcomes, rounds := w.run(puts(n), workers)
		if len(outcomes) != n || !slices.Equal(rounds, []int{n}) || w.values.Len() != n+1 {
			t.Errorf("P11.6: %d outcomes, %d rounds", len(outcomes), len(rounds))
		}
		w = worldOf(t, "a=0")
		outcomes, rounds = w.run(calls("inc", text("a"), n), workers)
		if len(outcomes) != n || !slices.Equal(rounds, slices.Repeat([]int{1}, n)) || w.said() != "a="+strconv.Itoa(n) {
			t.Errorf("P11.2: %d outcomes, %d rounds, %s", len(outcomes), len(rounds), w.said())
		}
		w = worldOf(t, "a=0 b=0 c=0")
		row := slices.Concat(calls("inc", text("a"), 1), calls("inc", text("b"), 1), calls("inc", text("c"), 1))
		outcomes, rounds = w.run(slices.Repeat(row, n/3), workers)
		if len(outcomes) != n/3*3 || !slices.Equal(rounds, slices.Repeat([]int{3}, n/3)) {
			t.Errorf("P11.2: %d outcomes, %d rounds", len(outcomes), len(rounds))
		}
	}
}
