package exec_test

import (
	"math"
	"slices"
	"strconv"
	"strings"
	"testing"

	"treadle/api"
	"treadle/exec"
	"treadle/zigzag"
)

// abce is the state of the chapter's examples.
const abce = `a=1 b=2 c="x" e=5`

// call is a state, a procedure's instructions, and what comes of them.
type call struct{ state, code, want string }

// meet runs calls without an argument; the chapter's words done slowly must say the same.
func meet(t *testing.T, promise string, calls []call) {
	t.Helper()
	for _, c := range calls {
		e := agrees(t, stateOf(c.state), codeOf(t, 0, c.code), nil)
		if s := said(e); s != c.want {
			t.Errorf("%s: %s of %s:\n%s, not\n%s", promise, c.code, c.state, s, c.want)
		}
	}
}

// The chapter's own.
func TestExamples(t *testing.T) {
	meet(t, "the examples", []call{
		{abce, `set r0 "a" / get r1 r0 / tell r1`, `done; told 1; looks a..a`},
		{abce, `set r0 "z" / set r1 7 / put r0 r1 / get r2 r0 / tell r2`, `done; told 7; writes z=7`},
		{abce, `sum r0 r1 r2 2 / tell r0`, `done; told 3; looks ..b`},
		{abce, `sum r0 r1 r2 3`, `kind at 0; looks ..c`},
		{abce, `set r1 "b" / set r2 "d" / count r0 r1 r2 64 / tell r0`, `done; told 2; looks b..d`},
		{abce, `set r0 "b" / del r0 / set r0 "a" / next r1 r0 / tell r1`, `done; told "c"; writes b=none; looks a\x00..c`},
		{abce, `set r0 "e" / next r1 r0 / tell r1`, `done; told none; looks e\x00..`},
		{abce, `set r0 1 / put r0 r0 / set r0 "" / put r0 r0`, `kind at 1`},
		{abce, `set r0 "" / put r0 r0`, `key at 1`},
		{abce, `set r0 1 / set r1 2 / need r0 = r1`, `need at 2`},
	})
	few := exec.Run(stateOf(abce), codeOf(t, 1, `arg r0 0 / tell r0`), nil)
	if said(few) != "args at 0" {
		t.Errorf("P10.1: %s", said(few))
	}
}

// P10.1: what chapter 6 refuses, and arguments that chapter 5 refuses, ahead of how many there are.
func TestRefused(t *testing.T) {
	whole := codeOf(t, 1, `arg r0 0 / get r1 r0 / put r0 r1 / tell r0`)
	change := func(f func(p *api.Proc)) api.Proc {
		p := api.Proc{Name: whole.Name, Args: whole.Args, Code: slices.Clone(whole.Code)}
		f(&p)
		return p
	}
	instr := func(in api.Instr) api.Proc {
		return change(func(p *api.Proc) { p.Code = append(p.Code, in) })
	}
	refused := []api.Proc{
		{},
		change(func(p *api.Proc) { p.Name = "" }),
		change(func(p *api.Proc) { p.Name = "9" }),
		change(func(p *api.Proc) { p.Name = long(33) }),
		change(func(p *api.Proc) { p.Args = -1 }),
		change(func(p *api.Proc) { p.Args = 17 }),
		change(func(p *api.Proc) { p.Args = 0 }),
		change(func(p *api.Proc) { p.Code = append(p.Code, make([]api.Instr, 61)...) }),
		change(func(p *api.Proc) { p.Code = slices.Repeat(p.Code[3:], 65) }),
		instr(api.Instr{}),
		instr(api.Instr{Op: -1}),
		instr(api.Instr{Op: 17}),
		instr(api.Instr{Op: math.MaxInt}),
		instr(api.Instr{Op: api.OpTell, A: 16}),
		instr(api.Instr{Op: api.OpTell, A: -1}),
		instr(api.Instr{Op: api.OpTell, B: 1}),
		instr(api.Instr{Op: api.OpStop, A: 1}),
		instr(api.Instr{Op: api.OpArg, N: 1}),
		instr(api.Instr{Op: api.OpNeed}),
		instr(api.Instr{Op: api.OpNeed, N: 7}),
		instr(api.Instr{Op: api.OpSkip, A: 1, N: 1}),
		instr(api.Instr{Op: api.OpSum}),
		instr(api.Instr{Op: api.OpSum, N: 65}),
		instr(api.Instr{Op: api.OpCount, N: -1}),
		instr(api.Instr{Op: api.OpSet, Value: text(long(257))}),
		instr(api.Instr{Op: api.OpSet, Value: api.Value{Kind: 3}}),
		instr(api.Instr{Op: api.OpSet, Value: api.Value{Int: 1}}),
	}
	zero := func(p api.Proc, args []api.Value) {
		t.Helper()
		for _, v := range []exec.View{nil, stateOf(abce)} {
			if e := exec.Run(v, p, args); !same(e, api.Effect{}) {
				t.Errorf("P10.1: %v of %v: %s", p, args, said(e))
			}
		}
	}
	one := []api.Value{text("a")}
	for _, p := range refused {
		zero(p, nil)
		zero(p, one)
		zero(p, []api.Value{text("a"), text("b")})
	}
	for _, bad := range []api.Value{{Kind: 3}, {Kind: -1}, {Kind: math.MaxInt}, {Int: 1}, {Text: "a"}, {Kind: api.KindInt, Text: "a"}, {Kind: api.KindText, Int: 1}, text(long(257))} {
		for _, args := range [][]api.Value{{bad}, {bad, num(1)}, {num(1), bad}, {bad, bad}, append(make([]api.Value, 20), bad)} {
			zero(whole, args)
			zero(codeOf(t, 0, `stop`), args)
			zero(api.Proc{}, args)
		}
	}
	if e := agrees(t, stateOf(abce), whole, one); said(e) != `done; told "a"; writes a=1; looks a..a` {
		t.Errorf("P10.1: %s", said(e))
	}
}

// P10.1: too few arguments and too many, for each number of them: nothing is looked at then.
func TestArguments(t *testing.T) {
	kinds := []api.Value{nothing, num(7), text(""), text(long(256)), num(math.MinInt64), text("\x00\xff")}
	for n := range 17 {
		lines := []string{`set r0 "a"`, `get r1 r0`, `put r0 r1`}
		for i := range n {
			lines = append(lines, "arg r2 "+strconv.Itoa(i), `tell r2`)
		}
		p := codeOf(t, n, strings.Join(lines, "/"))
		for given := range 20 {
			var args []api.Value
			for i := range given {
				args = append(args, kinds[(i+n)%len(kinds)])
			}
			v := &watched{state: stateOf(abce)}
			e := exec.Run(v, p, args)
			switch {
			case given != n:
				if said(e) != "args at 0" || v.asked() != 0 {
					t.Errorf("P10.1: %d arguments of %d: %s, the View asked %d times", given, n, said(e), v.asked())
				}
			case e.Outcome.Status != api.StatusDone || !slices.Equal(e.Outcome.Told, args):
				t.Errorf("P10.1: %d arguments: %s", n, said(e))
			}
		}
	}
	p := codeOf(t, 3, `arg r1 2 / arg r0 0 / put r0 r1 / arg r0 1 / put r0 r1 / arg r0 1 / tell r0`)
	e := agrees(t, nil, p, []api.Value{text("k"), text("l"), num(3)})
	if said(e) != `done; told "l"; writes k=3, l=3` {
		t.Errorf("P10.1: %s", said(e))
	}
}

// P10.1: a nil View has no key; nor has one that is a nil store.
func TestNilView(t *testing.T) {
	p := codeOf(t, 0, `set r0 "a" / get r1 r0 / tell r1 / next r1 r0 / tell r1 / next r1 r2 / tell r1 /
		sum r1 r2 r2 9 / tell r1 / count r1 r0 r2 9 / tell r1 / put r0 r0 / get r1 r0 / tell r1 / next r1 r2 / tell r1 / count r1 r0 r2 1 / tell r1`)
	const want = `done; told none, none, none, 0, 0, "a", "a", 1; writes a="a"; looks a..a, a\x00.., .., .., a.., ..a, a..a`
	for _, v := range []exec.View{nil, state(nil), (*zigzag.Store[api.Value])(nil), &zigzag.Store[api.Value]{}} {
		if e := exec.Run(v, p, nil); said(e) != want {
			t.Errorf("P10.1: %T: %s", v, said(e))
		}
	}
}

// P10.1: what each operation lays in its register, and that all registers have nothing at first.
func TestOperations(t *testing.T) {
	var all []string
	for r := range 16 {
		all = append(all, "tell r"+strconv.Itoa(r))
	}
	meet(t, "P10.1", []call{
		{``, ``, `done`},
		{``, strings.Join(all, "/"), `done; told ` + strings.Join(slices.Repeat([]string{"none"}, 16), ", ")},
		{``, `set r15 7 / tell r15 / set r15 "x" / tell r15 / set r15 none / tell r15`, `done; told 7, "x", none`},
		{abce, `set r0 "c" / get r0 r0 / tell r0`, `done; told "x"; looks c..c`},
		{abce, `set r0 "d" / set r1 3 / get r1 r0 / tell r1`, `done; told none; looks d..d`},
		{``, `set r0 -7 / set r1 2 / add r2 r0 r1 / tell r2 / sub r2 r0 r1 / tell r2 / mul r2 r0 r1 / tell r2 / join r2 r0 r1 / tell r2`,
			`done; told -5, -9, -14, "-72"`},
		{``, `set r0 "ab" / join r0 r0 r0 / join r0 r0 r0 / tell r0`, `done; told "abababab"`},
		{``, `set r0 3 / sub r0 r0 r0 / tell r0`, `done; told 0`},
		{``, `set r0 "" / join r1 r0 r0 / tell r1`, `done; told ""`},
		{``, `set r0 "k" / set r1 "v" / put r0 r1 / del r0 / put r1 r0`, `done; writes k=none, v="k"`},
		{`k=1`, `set r0 "k" / put r0 r1`, `done; writes k=none`},
		{``, `set r0 "k" / del r0`, `done; writes k=none`},
		{``, `need r0 = r1 / set r1 1 / need r0 < r1 / need r0 <= r1 / need r0 != r1 / need r1 > r0 / need r1 >= r0 / need r1 >= r1 / need r1 <= r1 / tell r1`,
			`done; told 1`},
		{``, `set r0 "" / set r1 9223372036854775807 / need r0 > r1 / tell r0`, `done; told ""`},
	})
}

// P10.1, P10.2, P10.4: every operation, with registers that have nothing, an integer and a text, on a state with own writes and without.
func TestEveryOperation(t *testing.T) {
	values := []string{`none`, `0`, `-5`, `""`, `"a"`, `"b"`, `"bb"`, `"e"`, `"z"`, `"` + long(64) + `"`, `"` + long(65) + `"`, `"` + long(256) + `"`}
	own := []string{``, `set r8 "b" / del r8 / `, `set r8 "bb" / set r9 3 / put r8 r9 / `, `set r8 "c" / put r8 r9 / set r8 "f" / put r8 r8 / `}
	ops := []string{"set r0 7", "get r0 r1", "put r1 r2", "del r1", "add r0 r1 r2", "sub r0 r1 r2", "mul r0 r1 r2", "join r0 r1 r2",
		"need r1 <= r2", "skip 1 r1 > r2", "sum r0 r1 r2 1", "sum r0 r1 r2 3", "sum r0 r1 r2 64", "count r0 r1 r2 1", "count r0 r1 r2 3", "count r0 r1 r2 64",
		"next r0 r1", "tell r1", "stop"}
	s := stateOf(abce)
	for _, b := range values {
		for _, c := range values {
			for _, op := range ops {
				for _, first := range own {
					agrees(t, s, codeOf(t, 0, "set r1 "+b+" / set r2 "+c+" / "+first+op+" / tell r0 / tell r1 / next r3 r0"), nil)
				}
			}
		}
	}
}

// P10.1: OpSkip leaves out some, none and all that is left; what is left out is not looked at.
func TestSkip(t *testing.T) {
	meet(t, "P10.1", []call{
		{``, `skip 1 r0 = r0 / tell r0 / tell r1 / tell r2`, `done; told none, none`},
		{``, `skip 2 r0 = r0 / tell r0 / put r0 r0 / tell r2`, `done; told none`},
		{``, `skip 3 r0 = r0 / tell r0 / tell r1 / tell r2`, `done`},
		{``, `skip 1 r0 = r0 / put r0 r0`, `done`},
		{``, `skip 1 r0 != r0 / put r0 r0`, `kind at 1`},
		{``, `skip 2 r0 != r0 / tell r0 / tell r1`, `done; told none, none`},
		{``, `skip 1 r0 = r0 / stop / tell r0`, `done; told none`},
		{``, `skip 1 r0 = r0 / tell r0 / skip 1 r0 = r0 / tell r0 / put r0 r0`, `kind at 4`},
		{``, `skip 1 r0 = r0 / skip 2 r0 = r0 / tell r0 / tell r0`, `done; told none, none`},
		{``, `skip 1 r0 = r0 / set r1 1 / need r1 = r0 / tell r1`, `done; told none`},
	})
	ways := []struct {
		word           string
		less, eq, more bool
	}{{"=", false, true, false}, {"!=", true, false, true}, {"<", true, false, false}, {"<=", true, true, false}, {">", false, false, true}, {">=", false, true, true}}
	rising := []string{"none", "-5", "-1", "0", "7", `""`, `"a"`, `"a\x00"`, `"ab"`, `"b"`}
	for i, a := range rising {
		for j, b := range rising {
			for _, way := range ways {
				lines := "set r3 " + a + " / set r9 " + b + " / "
				skips, needs := "done; told none", "done"
				if i < j && way.less || i == j && way.eq || i > j && way.more {
					skips = "done"
				} else {
					needs = "need at 2"
				}
				meet(t, "P10.1", []call{
					{``, lines + "skip 1 r3 " + way.word + " r9 / tell r0", skips},
					{``, lines + "need r3 " + way.word + " r9", needs},
				})
			}
		}
	}
}

// P10.1: OpStop ends the call, done, wherever it stands.
func TestStop(t *testing.T) {
	meet(t, "P10.1", []call{
		{``, `stop`, `done`},
		{``, `stop / put r0 r0`, `done`},
		{``, `stop / stop`, `done`},
		{abce, `set r0 "a" / put r0 r0 / get r1 r0 / tell r1 / stop / tell r1 / del r0 / next r1 r0`, `done; told "a"; writes a="a"`},
		{abce, `tell r0 / stop`, `done; told none`},
		{abce, `put r0 r0 / stop`, `kind at 0`},
		{abce, `skip 1 r0 = r0 / tell r0 / stop / tell r0`, `done`},
	})
}

// P10.1: sums and counts with both bounds, with one, with none; N reached at the last key and one ahead of it.
func TestSumAndCount(t *testing.T) {
	const five = `a=1 b=2 bb=4 c=8 d=16`
	rows := []struct{ from, to, n, sum, count, look string }{
		{`none`, `none`, `64`, "31", "5", ".."},
		{`none`, `none`, `6`, "31", "5", ".."},
		{`none`, `none`, `5`, "31", "5", "..d"},
		{`none`, `none`, `4`, "15", "4", "..c"},
		{`none`, `none`, `1`, "1", "1", "..a"},
		{`"b"`, `none`, `64`, "30", "4", "b.."},
		{`"b"`, `none`, `4`, "30", "4", "b..d"},
		{`"b"`, `none`, `3`, "14", "3", "b..c"},
		{`"b"`, `none`, `1`, "2", "1", "b..b"},
		{`"ba"`, `none`, `2`, "12", "2", "ba..c"},
		{`"e"`, `none`, `64`, "0", "0", "e.."},
		{`none`, `"c"`, `64`, "15", "4", "..c"},
		{`none`, `"c"`, `5`, "15", "4", "..c"},
		{`none`, `"c"`, `4`, "15", "4", "..c"},
		{`none`, `"c"`, `3`, "7", "3", "..bb"},
		{`none`, `"bz"`, `4`, "7", "3", "..bz"},
		{`none`, `"bz"`, `3`, "7", "3", "..bb"},
		{`none`, `"A"`, `64`, "0", "0", "..A"},
		{`"b"`, `"c"`, `64`, "14", "3", "b..c"},
		{`"b"`, `"c"`, `3`, "14", "3", "b..c"},
		{`"b"`, `"c"`, `2`, "6", "2", "b..bb"},
		{`"b"`, `"cc"`, `3`, "14", "3", "b..c"},
		{`"b"`, `"cc"`, `4`, "14", "3", "b..cc"},
		{`"ba"`, `"bb"`, `64`, "4", "1", "ba..bb"},
		{`"ba"`, `"bab"`, `64`, "0", "0", "ba..bab"},
		{`"bb"`, `"bb"`, `64`, "4", "1", "bb..bb"},
		{`"bb"`, `"bb"`, `1`, "4", "1", "bb..bb"},
		{`"x"`, `"x"`, `1`, "0", "0", "x..x"},
		{`"c"`, `"b"`, `64`, "0", "0", ""},
		{`"bb"`, `"b"`, `1`, "0", "0", ""},
		{`"b\x00"`, `"b"`, `1`, "0", "0", ""},
		{`"z"`, `"y"`, `1`, "0", "0", ""},
	}
	for _, row := range rows {
		lines := "set r1 " + row.from + " / set r2 " + row.to + " / "
		looks := ""
		if row.look != "" {
			looks = "; looks " + row.look
		}
		meet(t, "P10.1", []call{
			{five, lines + "sum r0 r1 r2 " + row.n + " / tell r0", "done; told " + row.sum + looks},
			{five, lines + "count r0 r1 r2 " + row.n + " / tell r0", "done; told " + row.count + looks},
			{five, lines + "count r2 r1 r2 " + row.n + " / tell r2", "done; told " + row.count + looks},
			{five, lines + "sum r1 r1 r2 " + row.n + " / tell r1", "done; told " + row.sum + looks},
		})
	}
	meet(t, "P10.1", []call{
		{abce, `set r1 "c" / set r2 "c" / count r0 r1 r2 1 / tell r0`, `done; told 1; looks c..c`},
		{``, `sum r0 r0 r0 1 / tell r0 / count r1 r2 r2 64 / tell r1`, `done; told 0, 0; looks .., ..`},
		{`a=5 b=-5 c=-9223372036854775808 d=9223372036854775807`, `sum r0 r1 r1 64 / tell r0`, `done; told -1; looks ..`},
	})
}

// P10.1: sums and counts of MaxLook keys.
func TestMaxLook(t *testing.T) {
	var s state
	for i := range 70 {
		s = s.with(strconv.Itoa(100+i), num(int64(i)))
	}
	for n, want := range map[int]string{64: `done; told 2016, 64; looks ..163, ..163`, 63: `done; told 1953, 63; looks ..162, ..162`} {
		p := codeOf(t, 0, strings.ReplaceAll(`sum r1 r0 r0 N / tell r1 / count r1 r0 r0 N / tell r1`, "N", strconv.Itoa(n)))
		if e := agrees(t, s, p, nil); said(e) != want {
			t.Errorf("P10.1: %d: %s", n, said(e))
		}
	}
}

// P10.1: OpNext above a key, above the greatest, above a text between two keys, and with nothing in B.
func TestNext(t *testing.T) {
	const four = `a=1 b=2 bb="" c=8`
	k64 := long(64)
	for _, row := range []struct{ above, key, look string }{
		{`none`, `"a"`, `..a`},
		{`"a"`, `"b"`, `a\x00..b`},
		{`"b"`, `"bb"`, `b\x00..bb`},
		{`"ba"`, `"bb"`, `ba\x00..bb`},
		{`"b\x00"`, `"bb"`, `b\x00\x00..bb`},
		{`"bb"`, `"c"`, `bb\x00..c`},
		{`"A"`, `"a"`, `A\x00..a`},
		{`"c"`, `none`, `c\x00..`},
		{`"zz"`, `none`, `zz\x00..`},
		{`"` + k64 + `"`, `none`, k64 + `\x00..`},
	} {
		meet(t, "P10.1", []call{
			{four, "set r3 " + row.above + " / set r4 1 / next r4 r3 / tell r4", "done; told " + row.key + "; looks " + row.look},
			{four, "set r3 " + row.above + " / next r3 r3 / tell r3", "done; told " + row.key + "; looks " + row.look},
		})
	}
	meet(t, "P10.1", []call{
		{``, `next r0 r1 / tell r0`, `done; told none; looks ..`},
		{four, `next r0 r0 / next r0 r0 / next r0 r0 / next r0 r0 / tell r0 / next r0 r0 / tell r0 / next r0 r0 / tell r0`,
			`done; told "c", none, "a"; looks ..a, a\x00..b, b\x00..bb, bb\x00..c, c\x00.., ..a`},
	})
}

// P10.1, P10.4: what a call sees of keys that it has written or deleted itself.
func TestOwnWrites(t *testing.T) {
	const three = `b=2 d=4 f=6`
	put := func(key, v string) string { return `set r14 "` + key + `" / set r15 ` + v + ` / put r14 r15 / ` }
	del := func(key string) string { return `set r14 "` + key + `" / del r14 / ` }
	get := func(key string) string { return `set r14 "` + key + `" / get r0 r14 / tell r0` }
	next := func(key string) string { return `set r14 "` + key + `" / next r0 r14 / tell r0` }
	meet(t, "P10.1, P10.4", []call{
		{three, put("b", `7`) + get("b"), `done; told 7; writes b=7`},
		{three, put("c", `"x"`) + get("c"), `done; told "x"; writes c="x"`},
		{three, put("b", `7`) + put("b", `8`) + get("b"), `done; told 8; writes b=8`},
		{three, put("b", `none`) + get("b"), `done; told none; writes b=none`},
		{three, del("b") + get("b"), `done; told none; writes b=none`},
		{three, del("x") + get("x"), `done; told none; writes x=none`},
		{three, del("b") + put("b", `1`) + get("b"), `done; told 1; writes b=1`},
		{three, put("b", `7`) + get("d"), `done; told 4; writes b=7; looks d..d`},
		{three, get("b") + ` / ` + put("b", `7`) + get("b"), `done; told 2, 7; writes b=7; looks b..b`},

		{three, put("c", `3`) + next("b"), `done; told "c"; writes c=3; looks b\x00..c`},
		{three, put("d", `3`) + next("b"), `done; told "d"; writes d=3; looks b\x00..d`},
		{three, put("e", `3`) + next("b"), `done; told "d"; writes e=3; looks b\x00..d`},
		{three, put("b", `3`) + next("b"), `done; told "d"; writes b=3; looks b\x00..d`},
		{three, del("d") + next("b"), `done; told "f"; writes d=none; looks b\x00..f`},
		{three, del("d") + del("f") + next("b"), `done; told none; writes d=none, f=none; looks b\x00..`},
		{three, del("d") + put("e", `1`) + next("b"), `done; told "e"; writes d=none, e=1; looks b\x00..e`},
		{three, del("d") + put("g", `1`) + next("b"), `done; told "f"; writes d=none, g=1; looks b\x00..f`},
		{three, del("d") + del("f") + put("g", `1`) + next("b"), `done; told "g"; writes d=none, f=none, g=1; looks b\x00..g`},
		{three, put("g", `1`) + next("f"), `done; told "g"; writes g=1; looks f\x00..g`},
		{three, put("c", `1`) + del("c") + next("b"), `done; told "d"; writes c=none; looks b\x00..d`},
		{three, del("d") + put("d", `1`) + next("b"), `done; told "d"; writes d=1; looks b\x00..d`},
		{three, put("a", `1`) + `next r0 r1 / tell r0`, `done; told "a"; writes a=1; looks ..a`},
		{three, del("b") + `next r0 r1 / tell r0`, `done; told "d"; writes b=none; looks ..d`},
		{``, put("a", `1`) + `next r0 r1 / tell r0`, `done; told "a"; writes a=1; looks ..a`},

		{three, put("c", `10`) + `sum r0 r1 r1 9 / tell r0 / count r0 r1 r1 9 / tell r0`, `done; told 22, 4; writes c=10; looks .., ..`},
		{three, put("d", `10`) + `sum r0 r1 r1 9 / tell r0 / count r0 r1 r1 9 / tell r0`, `done; told 18, 3; writes d=10; looks .., ..`},
		{three, del("d") + `sum r0 r1 r1 9 / tell r0 / count r0 r1 r1 9 / tell r0`, `done; told 8, 2; writes d=none; looks .., ..`},
		{three, del("d") + `sum r0 r1 r1 2 / tell r0 / count r0 r1 r1 2 / tell r0`, `done; told 8, 2; writes d=none; looks ..f, ..f`},
		{three, put("c", `10`) + `sum r0 r1 r1 2 / tell r0 / count r0 r1 r1 2 / tell r0`, `done; told 12, 2; writes c=10; looks ..c, ..c`},
		{three, put("c", `"x"`) + `count r0 r1 r1 9 / tell r0 / sum r0 r1 r1 1 / tell r0`, `done; told 4, 2; writes c="x"; looks .., ..b`},
		{three, put("c", `"x"`) + `sum r0 r1 r1 9`, `kind at 3; looks ..c`},
		{three, put("d", `"x"`) + `set r1 "d" / sum r0 r1 r2 9`, `kind at 4; looks d..d`},
		{`b="x" d=4`, put("b", `1`) + `sum r0 r1 r1 9 / tell r0`, `done; told 5; writes b=1; looks ..`},
		{`b="x" d=4`, del("b") + `sum r0 r1 r1 9 / tell r0`, `done; told 4; writes b=none; looks ..`},
		{three, del("d") + `set r1 "d" / set r2 "d" / sum r0 r1 r2 9 / tell r0 / count r0 r1 r2 9 / tell r0`, `done; told 0, 0; writes d=none; looks d..d, d..d`},
		{three, put("d", `1`) + `set r1 "d" / set r2 "d" / sum r0 r1 r2 9 / tell r0 / count r0 r1 r2 9 / tell r0`, `done; told 1, 1; writes d=1; looks d..d, d..d`},
		{three, put("c", `1`) + `set r1 "c" / set r2 "c" / sum r0 r1 r2 9 / tell r0 / count r0 r1 r2 9 / tell r0`, `done; told 1, 1; writes c=1; looks c..c, c..c`},
		{three, put("g", `1`) + `set r2 "f" / count r0 r1 r2 9 / tell r0`, `done; told 3; writes g=1; looks ..f`},
		{three, del("f") + `set r2 "f" / count r0 r1 r2 9 / tell r0`, `done; told 2; writes f=none; looks ..f`},
		{three, del("f") + put("g", `1`) + `set r2 "f" / count r0 r1 r2 9 / tell r0`, `done; told 2; writes f=none, g=1; looks ..f`},
		{three, put("a", `1`) + `set r1 "b" / count r0 r1 r2 9 / tell r0`, `done; told 3; writes a=1; looks b..`},
	})
}
