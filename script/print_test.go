package script_test

import (
	"fmt"
	"math"
	"math/rand"
	"slices"
	"strings"
	"testing"

	"treadle/api"
	"treadle/asm"
	"treadle/proc"
	"treadle/script"
)

// printed asks Print, and holds its answer against what is wanted.
func printed(t testing.TB, want string, err api.Errno, steps ...api.Step) {
	t.Helper()
	if s, e := script.Print(steps); s != want || e != err {
		t.Errorf("P19.2: Print(%s): %s, %v, not %s, %v", told(steps), told(s), e, told(want), err)
	}
}

// offends is steps that Print refuses.
func offends(t testing.TB, err api.Errno, steps ...api.Step) {
	t.Helper()
	printed(t, "", err, steps...)
}

// P19.2: each kind's text, written out.
func TestPrintKnown(t *testing.T) {
	printed(t, "", api.OK)
	texts := map[string]api.Step{
		"open 100 2 1": open(100, 2, 1), "open -9223372036854775808 0 9223372036854775807": open(math.MinInt, 0, math.MaxInt),
		"submit\ndone":           submit(),
		"submit\n  call p\ndone": submit(call("p")),
		"submit\n  call p \"a\" 1 none\n  call q -7 \"\"\ndone":                                                                      submit(call("p", text("a"), num(1), api.Value{}), call("q", num(-7), text(""))),
		"submit\n    proc p 0\n    end\ndone":                                                                                        submit(define(api.Proc{Name: "p"})),
		"submit\n    proc p 0\n      stop\n    end\n  call p\ndone":                                                                  submit(define(api.Proc{Name: "p", Code: []api.Instr{{Op: api.OpStop}}}), call("p")),
		"submit\n    proc put2 2\n      arg r0 0\n      arg r1 1\n      put r0 r1\n      stop\n    end\n    proc q 0\n    end\ndone": submit(define(put2()), define(api.Proc{Name: "q"})),
		`read "a"`: read("a"), `read ""`: read(""), `read "\x00 # \" \\ \x0a\x7f\xff~"`: read("\x00 # \" \\ \n\x7f\xff~"),
		`range "a" "" -1`: span("a", "", -1), `range "" "z" 0`: span("", "z", 0),
		"step 5": step(5), "step -9223372036854775808": step(math.MinInt),
		"plan": plan(nil, nil), "plan stroke 3 off stroke 4 full reading 1 io": plan([]api.Fault{{At: 3, Kind: 1}, {At: 4, Kind: 3}}, []api.Fault{{At: 1, Kind: 2}}), "plan reading -1 off": plan(nil, []api.Fault{{At: -1, Kind: 1}}),
		"crash 0": crash(0), "crash 1 file 2 0 5 file 0": crash(1, api.Pick{Done: 2, Lost: []int{0, 5}}, api.Pick{}), "crash -1 file -2 -3": crash(-1, api.Pick{Done: -2, Lost: []int{-3}}),
		`hand "x" "\x00"`: hand("x", "\x00"), `hand "" ""`: {Kind: api.StepHand}, `hand "a b" "` + long(300) + `"`: hand("a b", long(300)),
	}
	for word, kind := range bare {
		texts[word] = plain(kind)
	}
	for s, x := range texts {
		printed(t, s+"\n", api.OK, x)
		printed(t, "flush\n"+s+"\n"+s+"\nsight\n", api.OK, plain(api.StepFlush), x, x, plain(api.StepSight))
	}
}

// full is a step of a kind with all that it may have, and all that it may not have, sound or not.
func full(s api.Step) api.Step {
	if s.Kind != api.StepSubmit {
		s.Txns = []api.Txn{{Kind: 9}, call("9"), define(api.Proc{})}
	}
	if s.Kind != api.StepRead && s.Kind != api.StepRange {
		s.Key = "key"
	}
	if s.Kind != api.StepRange {
		s.To = "to"
	}
	if s.Kind != api.StepRange && s.Kind != api.StepStep {
		s.N = 77
	}
	if s.Kind != api.StepOpen {
		s.Rules = api.Rules{Segment: 7, Page: 8, Workers: 9}
	}
	if s.Kind != api.StepPlan {
		s.Plan = api.Plan{Strokes: []api.Fault{{At: 1, Kind: 9}}, Reads: []api.Fault{{}}}
	}
	if s.Kind != api.StepCrash {
		s.Picks = api.Picks{Names: 3, Files: []api.Pick{{Done: 1, Lost: []int{1}}}}
	}
	if s.Kind != api.StepHand {
		s.Name, s.Data = "name", []byte("data")
	}
	s.Txns = slices.Clone(s.Txns)
	for i, x := range s.Txns {
		switch x.Kind {
		case api.TxnDefine:
			s.Txns[i].Name, s.Txns[i].Args = "9", []api.Value{{Kind: 9}, text(long(257))}
		case api.TxnCall:
			s.Txns[i].Proc = api.Proc{Name: "9", Args: -1, Code: []api.Instr{{Op: 99}}}
		}
	}
	return s
}

// P19.2: what a kind does not have is not looked at, and not written.
func TestNotHad(t *testing.T) {
	for _, x := range each() {
		want, e := script.Print([]api.Step{x})
		if e != api.OK {
			t.Fatal(e)
		}
		printed(t, want, api.OK, full(x))
		takes(t, want, x)
	}
}

// offence is a step that Print refuses, and why.
type offence struct {
	step api.Step
	err  api.Errno
}

func offences() []offence {
	out := []offence{}
	add := func(err api.Errno, steps ...api.Step) {
		for _, s := range steps {
			out = append(out, offence{s, err})
		}
	}
	for _, kind := range []int{0, -1, 15, 16, 255, 257, 1 << 32, math.MaxInt, math.MinInt} {
		add(api.ErrStep, plain(kind), full(plain(kind)))
	}
	for _, kind := range []int{0, 3, -1, 4, 257, math.MaxInt, math.MinInt} {
		add(api.ErrStep, submit(api.Txn{Kind: kind}), submit(call("p"), define(put2()), api.Txn{Kind: kind, Name: "p", Proc: put2()}))
	}
	for _, name := range []string{"", "9", "9p", "_p", "p q", "p\n", "p#", "\"p\"", "pé", "\xff", long(33), long(1000)} {
		add(api.ErrStep, submit(call(name)), submit(call("p"), call(name, num(1))))
		add(api.ErrName, submit(define(api.Proc{Name: name})))
	}
	for _, v := range []api.Value{{Kind: 3}, {Kind: -1}, {Kind: math.MinInt}, {Int: 1}, {Text: "a"}, {Kind: api.KindInt, Text: "a"}, {Kind: api.KindText, Int: 1}, text(long(257)), text(long(70000))} {
		add(api.ErrStep, submit(call("p", v)), submit(call("p"), call("p", num(1), text("a"), v, api.Value{})))
	}
	for _, kind := range []int{0, 4, -1, 256 + 1, math.MaxInt, math.MinInt} {
		bad, good := api.Fault{At: 1, Kind: kind}, api.Fault{At: 1, Kind: api.FaultIO}
		add(api.ErrStep, plan([]api.Fault{bad}, nil), plan(nil, []api.Fault{bad}), plan([]api.Fault{good, bad, good}, nil), plan([]api.Fault{good}, []api.Fault{good, bad}))
	}
	for _, p := range badProcs() {
		_, e := asm.Print(p)
		add(e, submit(define(p)), submit(call("p"), define(put2()), define(p)))
	}
	return out
}

// badProcs is a procedure for each error of chapter 7's Print, in each way.
func badProcs() []api.Proc {
	of := func(code ...api.Instr) api.Proc { return api.Proc{Name: "p", Args: 1, Code: code} }
	return []api.Proc{
		{}, {Name: "9p"}, {Name: "p", Args: -1}, {Name: "p", Args: 17}, {Name: "p", Args: math.MinInt},
		of(slices.Repeat([]api.Instr{{Op: api.OpStop}}, 65)...),
		of(api.Instr{}), of(api.Instr{Op: 17}), of(api.Instr{Op: api.OpArg, N: 1}), of(api.Instr{Op: api.OpStop, A: 1}), of(api.Instr{Op: api.OpGet, A: 16}), of(api.Instr{Op: api.OpSkip, A: 1, N: 1}), of(api.Instr{Op: api.OpNeed, N: 7}), of(api.Instr{Op: api.OpSum, N: 65}),
		of(api.Instr{Op: api.OpSet, Value: api.Value{Kind: 3}}), of(api.Instr{Op: api.OpSet, Value: api.Value{Int: 1}}), of(api.Instr{Op: api.OpSet, Value: text(long(257))}),
	}
}

// P19.2: each offence alone, behind and ahead of sound steps; two in one step and in two steps: the first one is told.
func TestOffences(t *testing.T) {
	all := offences()
	seen := map[api.Errno]int{}
	for _, x := range all {
		seen[x.err]++
		offends(t, x.err, x.step)
		offends(t, x.err, plain(api.StepFlush), x.step)
		offends(t, x.err, append(each(), x.step, plain(api.StepSight))...)
		for _, y := range all {
			offends(t, x.err, plain(api.StepFlush), x.step, y.step)
			if x.step.Kind == api.StepSubmit && y.step.Kind == api.StepSubmit {
				offends(t, x.err, submit(append(append([]api.Txn{call("p")}, x.step.Txns...), y.step.Txns...)...))
			}
		}
	}
	for _, e := range []api.Errno{api.ErrStep, api.ErrName, api.ErrArg, api.ErrLong, api.ErrOp, api.ErrKind} {
		if seen[e] == 0 {
			t.Errorf("no offence answers %v", e)
		}
	}
	for _, p := range badProcs() {
		if _, e := proc.Check(p); e == api.OK {
			t.Errorf("%v is a procedure", p)
		}
	}
}

// P19.2: within one transaction the first thing is told too; the errors are alike there, so the ways are asked for one by one.
func TestOffencesWithin(t *testing.T) {
	offends(t, api.ErrStep, submit(call("9", api.Value{Kind: 9})))
	offends(t, api.ErrStep, submit(api.Txn{Kind: 7, Name: "9", Proc: api.Proc{Name: "9"}}))
	offends(t, api.ErrName, submit(define(api.Proc{}), call("9")))
	offends(t, api.ErrStep, submit(call("9"), define(api.Proc{})))
	offends(t, api.ErrArg, submit(define(api.Proc{Name: "p", Args: 17}), define(api.Proc{})), plain(0))
	offends(t, api.ErrStep, plain(0), submit(define(api.Proc{})))
}

// slowPrint is Print as the chapter says it, of steps that do not offend.
func slowPrint(steps []api.Step) string {
	var out strings.Builder
	for _, s := range steps {
		for word, kind := range bare {
			if kind == s.Kind {
				fmt.Fprintln(&out, word)
			}
		}
		switch s.Kind {
		case api.StepOpen:
			fmt.Fprintf(&out, "open %d %d %d\n", s.Rules.Segment, s.Rules.Page, s.Rules.Workers)
		case api.StepSubmit:
			fmt.Fprintln(&out, "submit")
			for _, x := range s.Txns {
				if x.Kind == api.TxnDefine {
					p, _ := asm.Print(x.Proc)
					fmt.Fprint(&out, "    "+strings.ReplaceAll(strings.TrimSuffix(p, "\n"), "\n", "\n    ")+"\n")
					continue
				}
				fmt.Fprint(&out, "  call "+x.Name)
				for _, v := range x.Args {
					fmt.Fprint(&out, []string{" none", fmt.Sprintf(" %d", v.Int), " " + slowQuote(v.Text)}[v.Kind])
				}
				fmt.Fprintln(&out)
			}
			fmt.Fprintln(&out, "done")
		case api.StepRead:
			fmt.Fprintf(&out, "read %s\n", slowQuote(s.Key))
		case api.StepRange:
			fmt.Fprintf(&out, "range %s %s %d\n", slowQuote(s.Key), slowQuote(s.To), s.N)
		case api.StepStep:
			fmt.Fprintf(&out, "step %d\n", s.N)
		case api.StepPlan:
			fmt.Fprint(&out, "plan")
			for _, f := range s.Plan.Strokes {
				fmt.Fprintf(&out, " stroke %d %s", f.At, []string{"", "off", "io", "full"}[f.Kind])
			}
			for _, f := range s.Plan.Reads {
				fmt.Fprintf(&out, " reading %d %s", f.At, []string{"", "off", "io", "full"}[f.Kind])
			}
			fmt.Fprintln(&out)
		case api.StepCrash:
			fmt.Fprintf(&out, "crash %d", s.Picks.Names)
			for _, p := range s.Picks.Files {
				fmt.Fprintf(&out, " file %d", p.Done)
				for _, n := range p.Lost {
					fmt.Fprintf(&out, " %d", n)
				}
			}
			fmt.Fprintln(&out)
		case api.StepHand:
			fmt.Fprintf(&out, "hand %s %s\n", slowQuote(s.Name), slowQuote(string(s.Data)))
		}
	}
	return out.String()
}

// slowQuote is a text in quotes as chapter 7 says it.
func slowQuote(s string) string {
	out := `"`
	for _, c := range []byte(s) {
		switch {
		case c == '"' || c == '\\':
			out += `\` + string(rune(c))
		case c < 32 || c > 126:
			out += fmt.Sprintf(`\x%02x`, c)
		default:
			out += string(rune(c))
		}
	}
	return out + `"`
}

// P19.2: the text of many lists of steps, against the chapter's words.
func TestPrintAgainstWords(t *testing.T) {
	printed(t, slowPrint(each()), api.OK, each()...)
	for seed := range int64(2000) {
		l := anySteps(rand.New(rand.NewSource(seed)))
		printed(t, slowPrint(l), api.OK, l...)
	}
}

// zeroed is a step without what its kind does not have, a transaction's too.
func zeroed(s api.Step) api.Step {
	z := api.Step{Kind: s.Kind}
	switch s.Kind {
	case api.StepOpen:
		z.Rules = s.Rules
	case api.StepSubmit:
		for _, x := range s.Txns {
			if x.Kind == api.TxnDefine {
				z.Txns = append(z.Txns, define(x.Proc))
			} else {
				z.Txns = append(z.Txns, call(x.Name, x.Args...))
			}
		}
	case api.StepRead:
		z.Key = s.Key
	case api.StepRange:
		z.Key, z.To, z.N = s.Key, s.To, s.N
	case api.StepStep:
		z.N = s.N
	case api.StepPlan:
		z.Plan = s.Plan
	case api.StepCrash:
		z.Picks = s.Picks
	case api.StepHand:
		z.Name, z.Data = s.Name, s.Data
	}
	return z
}

// P19.5: there and back, from lists of steps, also with what their kinds do not have.
func TestListsThereAndBack(t *testing.T) {
	back := func(l []api.Step) {
		t.Helper()
		s, e := script.Print(l)
		if e != api.OK {
			t.Fatalf("P19.5: Print(%s): %v", told(l), e)
		}
		want := []api.Step{}
		for _, x := range l {
			want = append(want, zeroed(x))
		}
		got, line, e := script.Parse(s)
		if e != api.OK || line != 0 || !same(got, want) {
			t.Fatalf("P19.5: %s comes back as %s, %d, %v", told(l), told(got), line, e)
		}
	}
	back(nil)
	back(each())
	for seed := range int64(3000) {
		r := rand.New(rand.NewSource(seed))
		l := anySteps(r)
		back(l)
		for i := range l {
			if r.Intn(2) == 0 {
				l[i] = full(l[i])
			}
		}
		back(l)
	}
}

// P19.5: there and back, from texts: what Print writes stays, and what Parse takes comes to a text that stays.
func TestTextsThereAndBack(t *testing.T) {
	stays := func(s string) string {
		t.Helper()
		l, _, e := script.Parse(s)
		if e != api.OK {
			t.Fatalf("P19.5: Parse(%s): %v", told(s), e)
		}
		again, e := script.Print(l)
		if e != api.OK {
			t.Fatalf("P19.5: Print(Parse(%s)): %v", told(s), e)
		}
		return again
	}
	signs := []string{" ", "\t", "#", "\n", "# x\n", "", "0", "1", "-1", "none", "\"a\"", "flush\n"}
	taken := 0
	for seed := range int64(2000) {
		r := rand.New(rand.NewSource(seed))
		s := slowPrint(anySteps(r))
		if again := stays(s); again != s {
			t.Fatalf("P19.5: %s becomes %s", told(s), told(again))
		}
		odd := changed(r, s, signs)
		l, _, e := script.Parse(odd)
		if e != api.OK {
			continue
		}
		taken++
		again := stays(odd)
		if twice, _, e := script.Parse(again); e != api.OK || !same(l, twice) || stays(again) != again {
			t.Fatalf("P19.5: %s becomes %s", told(odd), told(again))
		}
	}
	if taken < 300 {
		t.Errorf("%d texts were taken", taken)
	}
}
