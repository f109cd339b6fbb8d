package exec_test

import (
	"cmp"
	"math/big"
	"slices"
	"strconv"
	"strings"
	"testing"

	"treadle/api"
	"treadle/asm"
	"treadle/datum"
	"treadle/exec"
	"treadle/proc"
)

func num(n int64) api.Value   { return api.Value{Kind: api.KindInt, Int: n} }
func text(s string) api.Value { return api.Value{Kind: api.KindText, Text: s} }

var nothing = api.Value{}

func long(n int) string { return strings.Repeat("k", n) }

// state is entries in their order, looked at one by one.
type state []api.Entry

func (s state) Get(key string) (api.Value, bool) {
	for _, e := range s {
		if e.Key == key {
			return e.Value, true
		}
	}
	return nothing, false
}

func (s state) Next(above string) (string, bool) {
	for _, e := range s {
		if e.Key > above {
			return e.Key, true
		}
	}
	return "", false
}

// with is a state with a write on it.
func (s state) with(key string, v api.Value) state {
	out := slices.DeleteFunc(slices.Clone(s), func(e api.Entry) bool { return e.Key == key })
	if v.Kind != api.KindNone {
		out = append(out, api.Entry{Key: key, Value: v})
	}
	slices.SortFunc(out, func(a, b api.Entry) int { return cmp.Compare(a.Key, b.Key) })
	return out
}

// valueOf is a value written as asm writes it.
func valueOf(s string) api.Value {
	if s == "none" {
		return nothing
	}
	if n, err := strconv.ParseInt(s, 10, 64); err == nil {
		return num(n)
	}
	u, err := strconv.Unquote(s)
	if err != nil {
		panic(s)
	}
	return text(u)
}

// stateOf is a state written as words: a=1 b="x".
func stateOf(s string) state {
	var out state
	for _, word := range strings.Fields(s) {
		key, v, _ := strings.Cut(word, "=")
		out = out.with(key, valueOf(v))
	}
	return out
}

// codeOf is a procedure's instructions as asm has them, with a stroke between two.
func codeOf(t *testing.T, args int, code string) api.Proc {
	t.Helper()
	lines := strings.ReplaceAll(code, "/", "\n")
	p, line, e := asm.Parse("proc p " + strconv.Itoa(args) + "\n" + lines + "\nend\n")
	if e != api.OK {
		t.Fatalf("%s: line %d: %v", code, line, e)
	}
	return p
}

func saidText(s string) string { return strings.Trim(strconv.Quote(s), `"`) }

func saidValue(v api.Value) string {
	switch v.Kind {
	case api.KindNone:
		return "none"
	case api.KindInt:
		return strconv.FormatInt(v.Int, 10)
	}
	return strconv.Quote(v.Text)
}

// said is an Effect in words: how it ended, what it told, wrote, looked at; what there is none of is left out.
func said(e api.Effect) string {
	names := []string{"zero", "done", "need", "range", "kind", "long", "key", "name", "args"}
	out := names[e.Outcome.Status]
	if e.Outcome.Status > api.StatusDone || e.Outcome.At != 0 {
		out += " at " + strconv.Itoa(e.Outcome.At)
	}
	before := "; told "
	for _, v := range e.Outcome.Told {
		out, before = out+before+saidValue(v), ", "
	}
	before = "; writes "
	for _, w := range e.Writes {
		out, before = out+before+saidText(w.Key)+"="+saidValue(w.Value), ", "
	}
	before = "; looks "
	for _, l := range e.Looks {
		out, before = out+before+saidText(l.From)+".."+saidText(l.To), ", "
	}
	return out
}

// same tells whether two Effects are the same; a list without an element is as good as none.
func same(a, b api.Effect) bool {
	return a.Outcome.Status == b.Outcome.Status && a.Outcome.At == b.Outcome.At &&
		slices.Equal(a.Outcome.Told, b.Outcome.Told) && slices.Equal(a.Writes, b.Writes) && slices.Equal(a.Looks, b.Looks)
}

// slowCall is a call as the chapter says it: what it sees is made anew for each instruction.
type slowCall struct {
	sees   state
	own    []string // keys that were written
	regs   [16]api.Value
	looks  []api.Span
	told   []api.Value
	status int
}

func (c *slowCall) fail(status int) bool {
	c.status = status
	return false
}

// key is the key in a register.
func (c *slowCall) key(r int) (string, bool) {
	v := c.regs[r]
	switch {
	case v.Kind != api.KindText:
		return "", c.fail(api.StatusKind)
	case len(v.Text) < 1 || len(v.Text) > 64:
		return "", c.fail(api.StatusKey)
	}
	return v.Text, true
}

// bound is a bound: whether there is one, and whether the register may be one.
func (c *slowCall) bound(r int) (key string, is, ok bool) {
	if c.regs[r].Kind == api.KindNone {
		return "", false, true
	}
	key, ok = c.key(r)
	return key, ok, ok
}

func (c *slowCall) write(key string, v api.Value) bool {
	c.sees = c.sees.with(key, v)
	c.own = append(c.own, key)
	return true
}

func (c *slowCall) look(from, to string) { c.looks = append(c.looks, api.Span{From: from, To: to}) }

// join is chapter 5's Join.
func (c *slowCall) join(x, y api.Value) (api.Value, bool) {
	both := ""
	for _, v := range []api.Value{x, y} {
		switch v.Kind {
		case api.KindNone:
			return nothing, c.fail(api.StatusKind)
		case api.KindInt:
			both += strconv.FormatInt(v.Int, 10)
		case api.KindText:
			both += v.Text
		}
	}
	if len(both) > 256 {
		return nothing, c.fail(api.StatusLong)
	}
	return text(both), true
}

// reckon is chapter 5's Add, Sub, Mul, with numbers of any length, and Join.
func (c *slowCall) reckon(op int, x, y api.Value) (api.Value, bool) {
	if op == api.OpJoin {
		return c.join(x, y)
	}
	if x.Kind != api.KindInt || y.Kind != api.KindInt {
		return nothing, c.fail(api.StatusKind)
	}
	n, m := big.NewInt(x.Int), big.NewInt(y.Int)
	switch op {
	case api.OpAdd:
		n.Add(n, m)
	case api.OpSub:
		n.Sub(n, m)
	case api.OpMul:
		n.Mul(n, m)
	}
	if !n.IsInt64() {
		return nothing, c.fail(api.StatusRange)
	}
	return num(n.Int64()), true
}

// holds is chapter 5's Holds.
func (c *slowCall) holds(in api.Instr) bool {
	a, b := c.regs[in.B], c.regs[in.C]
	way := cmp.Or(cmp.Compare(a.Kind, b.Kind), cmp.Compare(a.Int, b.Int), cmp.Compare(a.Text, b.Text))
	return []bool{way == 0, way != 0, way < 0, way <= 0, way > 0, way >= 0}[in.N-1]
}

// through is OpSum and OpCount.
func (c *slowCall) through(in api.Instr) bool {
	from, isFrom, ok := c.bound(in.B)
	if !ok {
		return false
	}
	to, isTo, ok := c.bound(in.C)
	if !ok {
		return false
	}
	c.regs[in.A] = num(0)
	if isFrom && isTo && to < from {
		return true
	}
	total, n := num(0), 0
	for _, e := range c.sees {
		if isFrom && e.Key < from || isTo && e.Key > to {
			continue
		}
		n++
		ok, v := true, num(1)
		if in.Op == api.OpSum {
			v = e.Value
		}
		if total, ok = c.reckon(api.OpAdd, total, v); !ok {
			c.look(from, e.Key)
			return false
		}
		if n == in.N {
			to = e.Key
			break
		}
	}
	c.look(from, to)
	c.regs[in.A] = total
	return true
}

// over is OpNext.
func (c *slowCall) over(in api.Instr) bool {
	above, is, ok := c.bound(in.B)
	if !ok {
		return false
	}
	from := ""
	if is {
		from = above + "\x00"
	}
	c.regs[in.A] = nothing
	to, has := c.sees.Next(above)
	if has {
		c.regs[in.A] = text(to)
	}
	c.look(from, to)
	return true
}

// do does an instruction, and tells whether it could be done.
func (c *slowCall) do(in api.Instr, args []api.Value) bool {
	switch in.Op {
	case api.OpSet:
		c.regs[in.A] = in.Value
	case api.OpArg:
		c.regs[in.A] = args[in.N]
	case api.OpGet:
		key, ok := c.key(in.B)
		if !ok {
			return false
		}
		c.regs[in.A], _ = c.sees.Get(key)
		if !slices.Contains(c.own, key) {
			c.look(key, key)
		}
	case api.OpPut:
		key, ok := c.key(in.A)
		return ok && c.write(key, c.regs[in.B])
	case api.OpDel:
		key, ok := c.key(in.A)
		return ok && c.write(key, nothing)
	case api.OpAdd, api.OpSub, api.OpMul, api.OpJoin:
		v, ok := c.reckon(in.Op, c.regs[in.B], c.regs[in.C])
		if !ok {
			return false
		}
		c.regs[in.A] = v
	case api.OpNeed:
		return c.holds(in) || c.fail(api.StatusNeed)
	case api.OpSum, api.OpCount:
		return c.through(in)
	case api.OpNext:
		return c.over(in)
	case api.OpTell:
		if len(c.told) == 64 {
			return c.fail(api.StatusLong)
		}
		c.told = append(c.told, c.regs[in.A])
	}
	return true
}

// slowRun is Run as the chapter says it.
func slowRun(s state, p api.Proc, args []api.Value) api.Effect {
	if _, e := proc.Check(p); e != api.OK {
		return api.Effect{}
	}
	for _, v := range args {
		if datum.Check(v) != api.OK {
			return api.Effect{}
		}
	}
	if len(args) != p.Args {
		return api.Effect{Outcome: api.Outcome{Status: api.StatusArgs}}
	}
	c := &slowCall{sees: s}
	for at := 0; at < len(p.Code) && p.Code[at].Op != api.OpStop; at++ {
		in := p.Code[at]
		if !c.do(in, args) {
			return api.Effect{Outcome: api.Outcome{Status: c.status, At: at}, Looks: c.looks}
		}
		if in.Op == api.OpSkip && c.holds(in) {
			at += in.A
		}
	}
	out := api.Effect{Outcome: api.Outcome{Status: api.StatusDone, Told: c.told}, Looks: c.looks}
	slices.Sort(c.own)
	for _, key := range slices.Compact(c.own) {
		v, _ := c.sees.Get(key)
		out.Writes = append(out.Writes, api.Entry{Key: key, Value: v})
	}
	return out
}

// agrees runs a call, holds it against the chapter's words, and answers what it did.
func agrees(t *testing.T, s state, p api.Proc, args []api.Value) api.Effect {
	t.Helper()
	e := exec.Run(s, p, args)
	if want := slowRun(s, p, args); !same(e, want) {
		code, _ := asm.Print(p)
		t.Errorf("of %v\n%s%v:\n%s, not\n%s", s, code, args, said(e), said(want))
	}
	return e
}
