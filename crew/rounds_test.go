package crew_test

import (
	"fmt"
	"strings"
	"testing"

	"treadle/api"
)

// P11.2: a later one that gets a key that an earlier one writes or deletes, or any other key.
func TestGetBehindWrite(t *testing.T) {
	meet(t, "P11.2", []play{
		{"b=1", `p "b" 2; g "b"`, `done; done 2`, `1 1`, `b=2`},
		{"b=1", `p "b" 1; g "b"`, `done; done 1`, `1 1`, `b=1`},
		{"b=1", `p "b" 2; g "a"; g "b\x00"; g "ba"; g "B"`, `done; done none; done none; done none; done none`, `5`, `b=2`},
		{"b=1", `d "b"; g "b"`, `done; done none`, `1 1`, ``},
		{"b=1", `p "b" none; g "b"`, `done; done none`, `1 1`, ``},
		{"b=1", `d "a"; g "a"`, `done; done none`, `1 1`, `b=1`},
		{"b=1", `g "b"; p "b" 2; p "b" 3; d "b"; p "b" 4`, `done 1; done; done; done; done`, `5`, `b=4`},
		{"b=1", `g "b"; p "b" 2; g "b"; d "b"; g "b"`, `done 1; done; done 2; done; done none`, `2 2 1`, ``},
		{"b=1", `inc "b"; inc "b"; inc "c"; inc "b"`, `done 2; done 3; kind at 3; done 4`, `1 2 1`, `b=4`},
		{"b=1", `move "b" "c"; move "c" "d"; move "d" "e"`, `done; done; done`, `1 1 1`, `e=1`},
		{"b=1", `move "b" "c"; move "x" "c"; g "d"`, `done; done; done none`, `3`, ``},
		{"b=1 c=2", `p "b" 3; p "c" 4; g "c"; g "b"`, `done; done; done 4; done 3`, `2 2`, `b=3 c=4`},
	})
}

// P11.2: a written key at the ends of a sum's or a count's span, in its midst, beside it, and behind an open end.
func TestSpanBehindWrite(t *testing.T) {
	for _, name := range []string{"sum", "count"} {
		for _, c := range []struct{ key, from, to, rounds string }{
			{"b", "b", "d", "1 1"},
			{"c", "b", "d", "1 1"},
			{"cc", "b", "d", "1 1"},
			{"d", "b", "d", "1 1"},
			{"b", "b", "b", "1 1"},
			{`b\x00`, "b", "d", "1 1"},
			{"a", "b", "d", "2"},
			{`a\xff`, "b", "d", "2"},
			{`d\x00`, "b", "d", "2"},
			{"e", "b", "d", "2"},
			{"c", "d", "b", "2"},
			{"b", "d", "b", "2"},
			{"d", "d", "b", "2"},
			{"a", "", "d", "1 1"},
			{`\x00`, "", "d", "1 1"},
			{"e", "", "d", "2"},
			{"b", "b", "", "1 1"},
			{`\xff`, "b", "", "1 1"},
			{"a", "b", "", "2"},
			{"a", "", "", "1 1"},
			{`\xff\xff`, "", "", "1 1"},
		} {
			for _, write := range []string{`p "%s" 5`, `d "%s"`} {
				for _, keys := range []string{"", "a=1 b=2 c=3 d=4 e=5"} {
					script := fmt.Sprintf(write, c.key) + "; " + name + bound(c.from) + bound(c.to)
					txns := txnsOf(t, script)
					for _, workers := range hands {
						w := worldOf(t, keys)
						outcomes, rounds := w.run(txns, workers)
						s := slowOf(worldOf(t, keys))
						if want := s.oneByOne(txns); saidOutcomes(outcomes) != saidOutcomes(want) || saidRounds(rounds) != c.rounds {
							t.Errorf("P11.2: %s of %s, by %d: %s, %v, not %s, %s", script, keys, workers, saidOutcomes(outcomes), rounds, saidOutcomes(want), c.rounds)
						}
					}
				}
			}
		}
	}
}

// bound is a bound as an argument; an empty one is none.
func bound(key string) string {
	if key == "" {
		return " none"
	}
	return ` "` + key + `"`
}

// P11.2: a span ends at the last key that was gone through, if these were as many as were asked for, or it gave up there.
func TestShortSpan(t *testing.T) {
	meet(t, "P11.2", []play{
		{"b=1 d=2", `p "c" 3; count1 "a" "z"`, `done; done 1`, `2`, `b=1 c=3 d=2`},
		{"b=1 d=2", `p "b" 3; count1 "a" "z"`, `done; done 1`, `1 1`, `b=3 d=2`},
		{"b=1 d=2", `p "a" 3; count1 "a" "z"`, `done; done 1`, `1 1`, `a=3 b=1 d=2`},
		{"b=1 d=2", `d "d"; count1 none none`, `done; done 1`, `2`, `b=1`},
		{`b=1 c="x" d=2`, `p "d" 3; sum none none`, `done; kind at 2`, `2`, `b=1 c="x" d=3`},
		{`b=1 c="x" d=2`, `p "c" 3; sum none none`, `done; done 6`, `1 1`, `b=1 c=3 d=2`},
		{`b=1 c="x" d=2`, `p "a" 3; sum none none`, `done; kind at 2`, `1 1`, `a=3 b=1 c="x" d=2`},
	})
}

// P11.2: a written key within what an OpNext has looked at: above what is asked, up to what was answered.
func TestNextBehindWrite(t *testing.T) {
	meet(t, "P11.2", []play{
		{"b=1 d=2", `p "c" 3; next "b"`, `done; done "c"`, `1 1`, `b=1 c=3 d=2`},
		{"b=1 d=2", `p "b" 3; next "b"`, `done; done "d"`, `2`, `b=3 d=2`},
		{"b=1 d=2", `p "b\x00" 3; next "b"`, "done; done \"b\\x00\"", `1 1`, "b=1 b\x00=3 d=2"},
		{"b=1 d=2", `p "d" 3; next "b"`, `done; done "d"`, `1 1`, `b=1 d=3`},
		{"b=1 d=2", `d "d"; next "b"`, `done; done none`, `1 1`, `b=1`},
		{"b=1 d=2", `d "d\x00"; next "b"`, `done; done "d"`, `2`, `b=1 d=2`},
		{"b=1 d=2", `p "e" 3; next "b"`, `done; done "d"`, `2`, `b=1 d=2 e=3`},
		{"b=1 d=2", `p "e" 3; next "d"`, `done; done "e"`, `1 1`, `b=1 d=2 e=3`},
		{"b=1 d=2", `p "\xff" 3; next "d"`, "done; done \"\\xff\"", `1 1`, "b=1 d=2 \xff=3"},
		{"b=1 d=2", `p "a" 3; next "d"`, `done; done none`, `2`, `a=3 b=1 d=2`},
		{"b=1 d=2", `p "a" 3; next none`, `done; done "a"`, `1 1`, `a=3 b=1 d=2`},
		{"b=1 d=2", `p "\x00" 3; next none`, `done; done "\x00"`, `1 1`, "\x00=3 b=1 d=2"},
		{"b=1 d=2", `p "c" 3; next none`, `done; done "b"`, `2`, `b=1 c=3 d=2`},
		{"", `p "c" 3; next none`, `done; done "c"`, `1 1`, `c=3`},
	})
}

// P11.2: a later one that calls what an earlier one defines, to avail or to none; behind the definition of another one; behind a call that writes.
func TestCallBehindDefine(t *testing.T) {
	meet(t, "P11.2", []play{
		{"", `def new 0: tell r0; new`, `done; done none`, `1 1`, ``},
		{"", `new; def new 0: tell r0; new`, `name; done; done none`, `2 1`, ``},
		{"", `def g 0: tell r0; g`, `done; done none`, `1 1`, ``},
		{"a=1", `def g 1: arg r0 0 / get r1 r0 / tell r1; g "a"`, `done; done 1`, `1 1`, `a=1`},
		{"a=1", `def g 0:; next "a"; p "a" 2; zz; gg; early "a"`, `done; done none; done; name; name; need at 1`, `6`, `a=2`},
		{"a=1", `def g 0:; g "a"; g "a"`, `done; args; args`, `1 2`, `a=1`},
		{"a=1", `def g 0:; g; g "a"; def g 1:; g "a"; g`, `done; done; args; done; done; args`, `1 3 2`, `a=1`},
		{"a=1", `def new 0:; kind 1; new`, `done; done; done`, `2 1`, `a=1`},
		{"g=1", `p "g" 2; g "a"; p "p" 3; p "a" 4`, `done; done none; done; done`, `4`, `a=4 g=2 p=3`},
	})
	w := worldOf(t, "a=1")
	no := api.Txn{Kind: api.TxnDefine, Proc: api.Proc{Name: "g", Code: []api.Instr{{Op: 99}}}}
	none := api.Txn{Kind: api.TxnDefine, Proc: api.Proc{Name: "new", Args: 17}}
	txns := append([]api.Txn{no, none}, txnsOf(t, `g "a"; new`)...)
	outcomes, rounds := w.run(txns, 4)
	if saidOutcomes(outcomes) != "zero; zero; done 1; name" || saidRounds(rounds) != "4" {
		t.Errorf("P11.2: %s, %v", saidOutcomes(outcomes), rounds)
	}
}

// P11.2: a call that is none looks at nothing, not even at its procedure.
func TestNoCallLooksAtNothing(t *testing.T) {
	bad := []api.Txn{
		{Kind: api.TxnCall, Name: "new", Args: make([]api.Value, 17)},
		{Kind: api.TxnCall, Name: "new", Args: []api.Value{{Kind: 3}}},
		{Kind: 3, Name: "new"},
		{Kind: api.TxnDefine, Name: "new", Proc: api.Proc{Name: "new", Args: -1}},
	}
	for _, workers := range hands {
		for _, txn := range bad {
			w := worldOf(t, "")
			outcomes, rounds := w.run(append(txnsOf(t, `def new 0:`), txn), workers)
			if saidOutcomes(outcomes) != "done; zero" || saidRounds(rounds) != "2" {
				t.Errorf("P11.2: %v: %s, %v", txn, saidOutcomes(outcomes), rounds)
			}
		}
		w := worldOf(t, "")
		outcomes, rounds := w.run(txnsOf(t, `def g 0:; def g 1:; def g 2:; def h 0:`), workers)
		if saidOutcomes(outcomes) != "done; done; done; done" || saidRounds(rounds) != "4" {
			t.Errorf("P11.2: a definition looks at something: %s, %v", saidOutcomes(outcomes), rounds)
		}
	}
}

// P11.2: what a call that gave up had looked at counts, and the procedure of one with too few arguments too; what it did not come to, and what it had written, does not.
func TestGaveUp(t *testing.T) {
	meet(t, "P11.2", []play{
		{"", `p "c" 1; gives "z"`, `done; done`, `1 1`, `c=1 z="z"`},
		{"", `p "c" 2; gives "z"`, `done; need at 6`, `1 1`, `c=2`},
		{"", `p "z" 2; gives "z"`, `done; need at 6`, `2`, `z=2`},
		{"", `p "z" 2; early "z"`, `done; need at 1`, `2`, `z=2`},
		{"", `gives "z"; g "z"`, `need at 6; done none`, `2`, ``},
		{"", `inc "a"; inc "a"; g "a"`, `kind at 3; kind at 3; done none`, `3`, ``},
		{"", `def g 0:; g`, `done; done`, `1 1`, ``},
		{"", `def p 2:; p "a"`, `done; args`, `1 1`, ``},
		{`a="x"`, `p "a" 1; sum none none`, `done; done 1`, `1 1`, `a=1`},
	})
}

// P11.2: two that write one key go in one round, the later one stays; a call that looks at what it writes itself has no look.
func TestOwnAndSame(t *testing.T) {
	meet(t, "P11.2", []play{
		{"", `p "a" 1; p "a" 2; p "a" none; p "a" 3`, `done; done; done; done`, `4`, `a=3`},
		{"", `p "a" 1; d "a"`, `done; done`, `2`, ``},
		{"a=1", `d "a"; p "a" 2; d "a"`, `done; done; done`, `3`, ``},
		{"a=1", `own "a" 1; own "a" 2; own "a" none; own "a" 3`, `done 1; done 2; done none; done 3`, `4`, `a=3`},
		{"a=1", `p "a" 7; own "a" 2; g "a"`, `done; done 2; done 2`, `2 1`, `a=2`},
	})
}

// P11.2: the round is the longest one, and each is taken on the state ahead of it: those that end it may write elsewhere then.
func TestStateAhead(t *testing.T) {
	meet(t, "P11.2", []play{
		// On the state ahead of the round the second one would write b, behind the first one it writes c.
		{`a="b" b=1 c=1`, `p "a" "c"; to 5; g "b"; g "c"`, `done; name; done 1; done 1`, `4`, `a="c" b=1 c=1`},
		{`a="b" b=1 c=1`, `def to 1: set r0 "a" / get r1 r0 / arg r2 0 / put r1 r2; p "a" "c"; to 5; g "b"; g "c"`, `done; done; done; done 1; done 5`, `2 2 1`, `a="c" b=1 c=5`},
		{"", `p "a" 1; p "b" 1; g "a"; p "c" 1; g "c"; g "b"; p "b" 2; g "b"`, `done; done; done 1; done; done 1; done 1; done; done 2`, `2 2 3 1`, `a=1 b=2 c=1`},
		{"", `g "a"; g "b"; zz; kind 0; s; next none; kind 3; g "a"`, `done none; done none; name; zero; done 0; done none; zero; done none`, `8`, ``},
	})
}

// P11.2: the one that ends a round at each place of a long list, by each number of workers, which takes them in parts of its own.
func TestWhereverItEnds(t *testing.T) {
	const n = 140
	for _, workers := range []int{1, 2, 3, 7, 16} {
		for write := 0; write < n; write += 3 {
			for _, read := range []int{write + 1, write + 2, write + 30, n - 1} {
				if read >= n || read <= write {
					continue
				}
				lines := strings.Split(strings.Repeat(`own "x" 1;`, n), ";")
				lines[write], lines[read] = `p "a" 1`, `g "a"`
				w := worldOf(t, "")
				outcomes, rounds := w.run(txnsOf(t, strings.Join(lines, ";")), workers)
				if saidRounds(rounds) != fmt.Sprint(read, n-read) || saidOutcome(outcomes[read]) != "done 1" {
					t.Fatalf("P11.2: %d and %d by %d: %v, %s", write, read, workers, rounds, saidOutcome(outcomes[read]))
				}
			}
		}
	}
}
