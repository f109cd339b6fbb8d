package crew_test

import (
	"math"
	"slices"
	"strings"
	"testing"

	"treadle/api"
	"treadle/asm"
	"treadle/crew"
	"treadle/proc"
	"treadle/zigzag"
)

// hands is numbers of workers: below 1, some, as many as there may be, and more.
var hands = []int{math.MinInt, -1, 0, 1, 2, 3, 5, 15, api.MaxWorkers, api.MaxWorkers + 1, 1000, math.MaxInt}

// play is transactions on a state, the outcomes and rounds, and what the keys have then.
type play struct{ keys, script, outcomes, rounds, left string }

// meet runs plays by each number of workers; the chapter's words done slowly must say the same.
func meet(t *testing.T, promise string, plays []play) {
	t.Helper()
	for _, p := range plays {
		txns := txnsOf(t, p.script)
		for _, workers := range hands {
			w := worldOf(t, p.keys)
			outcomes, rounds := w.run(txns, workers)
			if saidOutcomes(outcomes) != p.outcomes || saidRounds(rounds) != p.rounds || w.said() != p.left {
				t.Errorf("%s: %s of %s, by %d:\n%s, rounds %s, %s, not\n%s, rounds %s, %s", promise, p.script, p.keys, workers,
					saidOutcomes(outcomes), saidRounds(rounds), w.said(), p.outcomes, p.rounds, p.left)
			}
			s := slowOf(worldOf(t, p.keys))
			outcomes, rounds = s.run(txns)
			if saidOutcomes(outcomes) != p.outcomes || saidRounds(rounds) != p.rounds || s.world().saidAll() != w.saidAll() {
				t.Errorf("%s: %s of %s, slowly:\n%s, rounds %s, %s", promise, p.script, p.keys, saidOutcomes(outcomes), saidRounds(rounds), s.world().saidAll())
			}
		}
	}
}

// The chapter's own.
func TestExamples(t *testing.T) {
	meet(t, "the examples", []play{
		{"", ``, ``, ``, ``},
		{"", `p "a" 1; p "b" 2; g "c"`, `done; done; done none`, `3`, `a=1 b=2`},
		{"", `p "a" 1; g "a"; p "a" 2`, `done; done 1; done`, `1 2`, `a=2`},
		{"", `p "a" 1; p "a" 2; g "b"`, `done; done; done none`, `3`, `a=2`},
		{"", `g "a"; p "a" 1; p "d" 1; s`, `done none; done; done; done 1`, `3 1`, `a=1 d=1`},
		{"", `def q 0: set r0 7 / tell r0; q; zz; kind 9`, `done; done 7; name; zero`, `1 3`, ``},
		{"b=1", `s; def q 0:; def s 0: tell r0; s`, `done 1; done; done; done none`, `3 1`, `b=1`},
	})
}

// P11.1: definitions of procedures that chapter 6 takes, of new names and of ones that stand.
func TestDefine(t *testing.T) {
	meet(t, "P11.1", []play{
		{"a=1", `def new 0: set r0 1 / tell r0`, `done`, `1`, `a=1`},
		{"a=1", `def new 0: set r0 1 / tell r0; new`, `done; done 1`, `1 1`, `a=1`},
		{"a=1", `g "a"; def g 1: arg r0 0 / tell r0; g "a"`, `done 1; done; done "a"`, `2 1`, `a=1`},
		{"a=1", `def g 2:; g "a"`, `done; args`, `1 1`, `a=1`},
		{"a=1", `def new 0:; def new 1:; def new 0: tell r0 / tell r0; new`, `done; done; done; done none none`, `3 1`, `a=1`},
		{"", `def new 0: set r0 "a" / put r0 r0`, `done`, `1`, ``},
	})
	w := worldOf(t, "a=1")
	w.run(txnsOf(t, `def g 0: stop; def Z-9._z 16: set r15 "\x00\xff" / arg r0 15`), 2)
	for name, want := range map[string]string{
		"g":       "proc g 0\n  stop\nend\n",
		"Z-9._z":  "proc Z-9._z 16\n  set r15 \"\\x00\\xff\"\n  arg r0 15\nend\n",
		"next":    "proc next 1\n  arg r0 0\n  next r1 r0\n  tell r1\nend\n",
		"missing": "",
	} {
		p, is := w.procs.Get(name)
		got, _ := asm.Print(p)
		if is != (want != "") || got != want {
			t.Errorf("P11.1: %s: %v, %s", name, is, got)
		}
	}
}

// P11.1: definitions that chapter 6 refuses, of a new name and of one that stands, do nothing.
func TestDefineRefused(t *testing.T) {
	refused := []api.Proc{
		{},
		{Name: "9"},
		{Name: "g h"},
		{Name: long(33)},
		{Name: "g", Args: -1},
		{Name: "g", Args: 17},
		{Name: "g", Code: []api.Instr{{}}},
		{Name: "g", Code: []api.Instr{{Op: 17}}},
		{Name: "g", Code: []api.Instr{{Op: api.OpStop, A: 1}}},
		{Name: "g", Code: []api.Instr{{Op: api.OpArg}}},
		{Name: "g", Code: slices.Repeat([]api.Instr{{Op: api.OpStop}}, 65)},
		{Name: "g", Code: []api.Instr{{Op: api.OpSet, Value: text(long(257))}}},
		{Name: "g", Code: []api.Instr{{Op: api.OpSet, Value: api.Value{Kind: 3}}}},
	}
	for _, p := range refused {
		if _, e := proc.Check(p); e == api.OK {
			t.Fatalf("chapter 6 takes %v", p)
		}
		for _, name := range []string{p.Name, "new"} {
			if p.Name != "g" {
				name = p.Name
			}
			p.Name = name
			for _, workers := range hands {
				w := worldOf(t, "a=1")
				was := w.saidAll()
				txns := []api.Txn{{Kind: api.TxnDefine, Proc: p, Name: "g", Args: []api.Value{text("a")}}}
				outcomes, rounds := w.run(txns, workers)
				if saidOutcomes(outcomes) != "zero" || saidRounds(rounds) != "1" || w.saidAll() != was {
					t.Errorf("P11.1: %v: %s, %s, %s", p, saidOutcomes(outcomes), saidRounds(rounds), w.saidAll())
				}
			}
		}
	}
}

// P11.1: calls of names that there are and that there are not; what gives up, writes and deletes.
func TestCall(t *testing.T) {
	meet(t, "P11.1", []play{
		{"a=1 b=2", `g "a"`, `done 1`, `1`, `a=1 b=2`},
		{"a=1 b=2", `zz`, `name`, `1`, `a=1 b=2`},
		{"a=1 b=2", `zz "a" 1 none; 9; G "a"; gg "a"`, `name; name; name; name`, `4`, `a=1 b=2`},
		{"a=1 b=2", `g; g "a" "b"; p "a"`, `args; args; args`, `3`, `a=1 b=2`},
		{"a=1 b=2", `g none; g 7; g ""`, `kind at 1; kind at 1; key at 1`, `3`, `a=1 b=2`},
		{"a=1 b=2", `gives "z"; early "z"`, `need at 6; need at 1`, `2`, `a=1 b=2`},
		{"a=1 b=2", `p "a" none`, `done`, `1`, `b=2`},
		{"a=1 b=2", `p "z" none; d "y"; d "a"`, `done; done; done`, `3`, `b=2`},
		{"a=1 b=2", `p "a" ""; p "c" "x"; p "b" 0`, `done; done; done`, `3`, `a="" b=0 c="x"`},
		{"a=1 b=2", `move "a" "c"`, `done`, `1`, `b=2 c=1`},
		{"a=1 b=2", `move "a" "a"`, `done`, `1`, `b=2`},
	})
}

// P11.1: as many arguments as there may be and one more, and arguments that chapter 5 refuses: of names that there are and of others.
func TestArguments(t *testing.T) {
	many := api.Proc{Name: "many", Args: 16, Code: []api.Instr{{Op: api.OpArg, N: 15}, {Op: api.OpTell}, {Op: api.OpGet, A: 1}, {Op: api.OpPut}}}
	sixteen := slices.Repeat([]api.Value{text("a")}, 16)
	with := func(at int, v api.Value) []api.Value {
		l := slices.Clone(sixteen)
		l[at] = v
		return l
	}
	for _, c := range []struct {
		args       []api.Value
		many, name string
	}{
		{sixteen, `done "a"`, "name"},
		{sixteen[:15], "args", "name"},
		{sixteen[:0], "args", "name"},
		{nil, "args", "name"},
		{append(slices.Clone(sixteen), nothing), "zero", "zero"},
		{slices.Repeat(sixteen, 9), "zero", "zero"},
		{with(0, api.Value{Kind: 3}), "zero", "zero"},
		{with(15, api.Value{Kind: -1}), "zero", "zero"},
		{with(7, api.Value{Int: 1}), "zero", "zero"},
		{with(7, api.Value{Text: "a"}), "zero", "zero"},
		{with(7, api.Value{Kind: api.KindInt, Text: "a"}), "zero", "zero"},
		{with(7, api.Value{Kind: api.KindText, Int: 1}), "zero", "zero"},
		{with(7, text(long(257))), "zero", "zero"},
		{with(7, text(long(256))), `done "a"`, "name"},
		{with(7, nothing), `done "a"`, "name"},
		{with(15, nothing), "kind at 2", "name"},
		{[]api.Value{{Kind: 7}}, "zero", "zero"},
	} {
		for _, workers := range hands {
			w := empty()
			w.procs.Put("many", many)
			txns := []api.Txn{{Kind: api.TxnCall, Name: "many", Args: c.args}, {Kind: api.TxnCall, Name: "zz", Args: c.args}, {Kind: api.TxnCall, Args: c.args}}
			outcomes, rounds := w.run(txns, workers)
			if want := c.many + "; " + c.name + "; " + c.name; saidOutcomes(outcomes) != want || saidRounds(rounds) != "3" {
				t.Errorf("P11.1: %v: %s, %v, not %s", c.args, saidOutcomes(outcomes), rounds, want)
			}
		}
	}
}

// P11.1: what stands in fields that a kind does not have makes no difference; other kinds do nothing at all.
func TestKinds(t *testing.T) {
	for _, kind := range []int{0, -1, 3, 9, math.MaxInt, math.MinInt} {
		for _, workers := range hands {
			w := worldOf(t, "a=1")
			was := w.saidAll()
			txns := []api.Txn{
				{Kind: kind},
				{Kind: kind, Name: "p", Args: []api.Value{text("a"), num(2)}},
				{Kind: kind, Proc: api.Proc{Name: "new"}},
				{Kind: kind, Proc: api.Proc{Name: "new"}, Name: "new", Args: make([]api.Value, 99)},
			}
			outcomes, rounds := w.run(txns, workers)
			if saidOutcomes(outcomes) != "zero; zero; zero; zero" || saidRounds(rounds) != "4" || w.saidAll() != was {
				t.Errorf("P11.1: kind %d: %s, %v, %s", kind, saidOutcomes(outcomes), rounds, w.saidAll())
			}
		}
	}
	w := worldOf(t, "a=1")
	odd := api.Proc{Name: "9", Args: -4, Code: make([]api.Instr, 99)}
	outcomes, rounds := w.run([]api.Txn{
		{Kind: api.TxnCall, Name: "g", Args: []api.Value{text("a")}, Proc: odd},
		{Kind: api.TxnDefine, Proc: api.Proc{Name: "new"}, Name: "g", Args: slices.Repeat([]api.Value{{Kind: 9}}, 99)},
		{Kind: api.TxnCall, Name: "g", Args: []api.Value{text("a")}, Proc: api.Proc{Name: "g"}},
	}, 3)
	if saidOutcomes(outcomes) != "done 1; done; done 1" || saidRounds(rounds) != "3" {
		t.Errorf("P11.1: %s, %v", saidOutcomes(outcomes), rounds)
	}
}

// P11.3: of stores that are nil nothing comes, and the other one stays as it is.
func TestNil(t *testing.T) {
	txns := txnsOf(t, `def new 0:; p "a" 2; g "a"`)
	for _, workers := range hands {
		for _, l := range [][]api.Txn{nil, {}, txns} {
			w := worldOf(t, "a=1")
			was := w.saidAll()
			for _, x := range []world{{w.values, nil}, {nil, w.procs}, {}} {
				outcomes, rounds := x.run(l, workers)
				if len(outcomes) != 0 || len(rounds) != 0 || w.saidAll() != was {
					t.Errorf("P11.3: %v, %v, %s", outcomes, rounds, w.saidAll())
				}
			}
		}
	}
}

// P11.3, W8: no transaction, and zero stores, which have no key.
func TestNone(t *testing.T) {
	for _, workers := range hands {
		for _, l := range [][]api.Txn{nil, {}} {
			w := worldOf(t, "a=1")
			was := w.saidAll()
			outcomes, rounds := w.run(l, workers)
			if len(outcomes) != 0 || len(rounds) != 0 || w.saidAll() != was {
				t.Errorf("P11.3: %v, %v, %s", outcomes, rounds, w.saidAll())
			}
		}
		w := world{&zigzag.Store[api.Value]{}, &zigzag.Store[api.Proc]{}}
		outcomes, rounds := w.run(txnsOf(t, `g "a"; def p 2: arg r0 0 / arg r1 1 / put r0 r1; p "a" 1`), workers)
		if saidOutcomes(outcomes) != "name; done; done" || saidRounds(rounds) != "2 1" || w.said() != "a=1" {
			t.Errorf("P11.3: %s, %v, %s", saidOutcomes(outcomes), rounds, w.said())
		}
	}
}

// P11.3: outcomes in their order, one a transaction, whoever has reckoned them.
func TestOrder(t *testing.T) {
	const n = 300
	for _, workers := range hands {
		w := worldOf(t, "")
		var txns []api.Txn
		for i := range int64(n) {
			txns = append(txns, api.Txn{Kind: api.TxnCall, Name: "own", Args: []api.Value{text(strings.Repeat("k", int(i%64)+1)), num(i)}})
		}
		outcomes, rounds := w.run(txns, workers)
		if len(outcomes) != n || !slices.Equal(rounds, []int{n}) || w.values.Len() != 64 {
			t.Fatalf("P11.3: %d outcomes, %v, %d keys", len(outcomes), rounds, w.values.Len())
		}
		for i, o := range outcomes {
			if o.Status != api.StatusDone || !slices.Equal(o.Told, []api.Value{num(int64(i))}) {
				t.Fatalf("P11.3: %d: %v", i, o)
			}
		}
		for i := range int64(64) {
			last := (n-1-i)/64*64 + i
			if v, _ := w.values.Get(long(int(i) + 1)); v != num(last) {
				t.Fatalf("P11.2: %d has %v, not %d", i, v, last)
			}
		}
	}
}

// W1: odd things in the stores: a call of what chapter 6 refuses, under any name, has the outcome zero.
func TestOddStores(t *testing.T) {
	w := empty()
	w.procs.Put("", api.Proc{Name: "fine", Code: []api.Instr{{Op: api.OpTell}}})
	w.procs.Put("bad", api.Proc{Name: "bad", Code: []api.Instr{{Op: 99}}})
	w.values.Put("", num(1))
	w.values.Put(long(9999), num(2))
	w.values.Put("odd", api.Value{Kind: 77})
	for _, workers := range hands {
		outcomes, _ := crew.Run(w.values, w.procs, []api.Txn{{Kind: api.TxnCall}, {Kind: api.TxnCall, Name: "bad"}, {Kind: api.TxnCall, Name: long(1 << 16)}}, workers)
		if saidOutcomes(outcomes) != "done none; zero; name" {
			t.Errorf("P11.1: %s", saidOutcomes(outcomes))
		}
	}
}
