package proc_test

import (
	"fmt"
	"math"
	"math/rand"
	"regexp"
	"slices"
	"strings"
	"testing"

	"treadle/api"
	"treadle/proc"
)

func num(n int64) api.Value   { return api.Value{Kind: api.KindInt, Int: n} }
func text(s string) api.Value { return api.Value{Kind: api.KindText, Text: s} }

var nothing = api.Value{}

// long is a text of n bytes.
func long(n int) string { return strings.Repeat("x", n) }

// put2 is the procedure of the chapter's examples.
func put2() api.Proc {
	return api.Proc{Name: "put2", Args: 2, Code: []api.Instr{
		{Op: api.OpArg}, {Op: api.OpArg, A: 1, N: 1}, {Op: api.OpPut, B: 1}, {Op: api.OpStop}}}
}

// of is a procedure of these instructions, with all arguments that there may be.
func of(code ...api.Instr) api.Proc { return api.Proc{Name: "p", Args: api.MaxArgs, Code: code} }

// stops is so many instructions that do nothing.
func stops(n int) []api.Instr { return slices.Repeat([]api.Instr{{Op: api.OpStop}}, n) }

// told is a procedure in words; of a long one its beginning.
func told(p api.Proc) string {
	s := fmt.Sprintf("%+v", p)
	return s[:min(len(s), 300)]
}

// shapes is the chapter's table, in its order: a register A, B or C as that
// letter; n an argument's number, k how many are left out, m a comparison, l
// how many are looked at, v the Value.
var shapes = map[int]string{
	api.OpSet: "Av",
	api.OpArg: "An",
	api.OpGet: "AB", api.OpNext: "AB",
	api.OpPut: "AB",
	api.OpDel: "A", api.OpTell: "A",
	api.OpAdd: "ABC", api.OpSub: "ABC", api.OpMul: "ABC", api.OpJoin: "ABC",
	api.OpNeed: "BCm",
	api.OpSkip: "kBCm",
	api.OpSum:  "ABCl", api.OpCount: "ABCl",
	api.OpStop: "",
}

// part is the field that a letter speaks of.
func part(in *api.Instr, letter rune) *int {
	switch letter {
	case 'A', 'k':
		return &in.A
	case 'B':
		return &in.B
	case 'C':
		return &in.C
	}
	return &in.N
}

// bounds is the least and the greatest number that a field may be.
func bounds(letter rune, args, behind int) (int, int) {
	switch letter {
	case 'n':
		return 0, args - 1
	case 'k':
		return 1, behind
	case 'm':
		return 1, 6
	case 'l':
		return 1, 64
	}
	return 0, 15
}

// slowValue is chapter 5's Check.
func slowValue(v api.Value) api.Errno {
	switch {
	case v.Kind < 0 || v.Kind > 2 || v.Kind != 1 && v.Int != 0 || v.Kind != 2 && v.Text != "":
		return api.ErrKind
	case len(v.Text) > 256:
		return api.ErrLong
	}
	return api.OK
}

// slowInstr tells why an instruction may not stand where it does.
func slowInstr(in api.Instr, args, behind int) api.Errno {
	shape, ok := shapes[in.Op]
	if !ok {
		return api.ErrOp
	}
	had := func(letters string) bool { return strings.ContainsAny(shape, letters) }
	if !had("Ak") && in.A != 0 || !had("B") && in.B != 0 || !had("C") && in.C != 0 ||
		!had("nml") && in.N != 0 || !had("v") && in.Value != nothing {
		return api.ErrOp
	}
	for _, letter := range shape {
		if letter == 'v' {
			continue
		}
		least, most := bounds(letter, args, behind)
		if n := *part(&in, letter); n < least || n > most {
			return api.ErrOp
		}
	}
	return slowValue(in.Value)
}

var nameForm = regexp.MustCompile(`^[a-zA-Z][a-zA-Z0-9_.-]{0,31}$`)

// slowCheck is Check as the chapter says it.
func slowCheck(p api.Proc) (int, api.Errno) {
	switch {
	case !nameForm.MatchString(p.Name):
		return -1, api.ErrName
	case p.Args < 0 || p.Args > 16:
		return -1, api.ErrArg
	case len(p.Code) > 64:
		return -1, api.ErrLong
	}
	for i, in := range p.Code {
		if e := slowInstr(in, p.Args, len(p.Code)-i-1); e != api.OK {
			return i, e
		}
	}
	return 0, api.OK
}

// checked asks Check, and holds its answer against what is wanted.
func checked(t *testing.T, p api.Proc, at int, err api.Errno) {
	t.Helper()
	if i, e := proc.Check(p); i != at || e != err {
		t.Errorf("P6.1: Check(%s): %d, %v, not %d, %v", told(p), i, e, at, err)
	}
}

// agrees holds Check against the chapter's words.
func agrees(t *testing.T, p api.Proc) {
	t.Helper()
	at, e := slowCheck(p)
	checked(t, p, at, e)
}

// plain is an instruction of an operation that may stand ahead of another one.
func plain(op int) api.Instr {
	in := api.Instr{Op: op}
	for _, letter := range shapes[op] {
		least, _ := bounds(letter, api.MaxArgs, 1)
		*part(&in, letter) = least
	}
	return in
}

// edges is numbers about all limits, and far from them.
func edges() []int {
	var out []int
	for _, n := range []int{0, 6, 15, 63, 127, 255, 65535, math.MaxInt32, 1 << 48} {
		out = append(out, n-1, n, n+1, n+2, -n-1)
	}
	return append(out, math.MinInt, math.MinInt+1, math.MaxInt-1, math.MaxInt, 1<<32, 1<<32+1, 1<<56+1)
}

// values is such as Check of chapter 5 takes, and such as it refuses.
func values() (taken, refused []api.Value) {
	taken = []api.Value{nothing, num(0), num(1), num(-1), num(63), num(64), num(-65), num(math.MinInt64), num(math.MaxInt64),
		text(""), text("a"), text("a\x00\xff\"\n"), text(long(120)), text(long(123)), text(long(124)), text(long(125)),
		text(long(126)), text(long(127)), text(long(128)), text(long(255)), text(long(256))}
	refused = []api.Value{{Kind: 3}, {Kind: -1}, {Kind: math.MaxInt}, {Kind: math.MinInt}, {Int: 1}, {Text: "x"}, {Text: long(257)},
		{Kind: 1, Text: "x"}, {Kind: 1, Int: 5, Text: long(300)}, {Kind: 2, Int: 1, Text: "x"}, {Kind: 2, Int: -1, Text: long(257)},
		text(long(257)), text(long(258)), text(long(2000))}
	return taken, refused
}

// P6.1: the chapter's own.
func TestCheckKnown(t *testing.T) {
	with := func(turn func(p *api.Proc)) api.Proc {
		p := put2()
		turn(&p)
		return p
	}
	checked(t, put2(), 0, api.OK)
	checked(t, with(func(p *api.Proc) { p.Name = "" }), -1, api.ErrName)
	checked(t, with(func(p *api.Proc) { p.Args = -1 }), -1, api.ErrArg)
	checked(t, with(func(p *api.Proc) { p.Code = append(p.Code, stops(61)...) }), -1, api.ErrLong)
	checked(t, with(func(p *api.Proc) { p.Args = 1 }), 1, api.ErrOp)
	checked(t, with(func(p *api.Proc) { p.Code[3].A = 1 }), 3, api.ErrOp)
	checked(t, with(func(p *api.Proc) { p.Code = append(p.Code, api.Instr{Op: api.OpSkip, A: 1, N: 1}) }), 4, api.ErrOp)
	checked(t, api.Proc{Name: "p", Code: []api.Instr{{Op: api.OpSet, Value: text(long(257))}}}, 0, api.ErrLong)
	checked(t, api.Proc{}, -1, api.ErrName)
	checked(t, api.Proc{Name: "p"}, 0, api.OK)
	checked(t, api.Proc{Name: "p", Code: []api.Instr{}}, 0, api.OK)
}

// P6.1: names by their length, and by each byte at each place.
func TestNames(t *testing.T) {
	named := func(name string, want api.Errno) {
		t.Helper()
		at := 0
		if want != api.OK {
			at = -1
		}
		checked(t, api.Proc{Name: name}, at, want)
	}
	for _, n := range []int{0, 33, 34, 64, 255, 256, 1 << 20} {
		named(long(n), api.ErrName)
	}
	for n := 1; n <= 32; n++ {
		named(long(n), api.OK)
		named("A"+strings.Repeat("9", n-1), api.OK)
	}
	const letters = "abcdefghijklmnopqrstuvwxyzABCDEFGHIJKLMNOPQRSTUVWXYZ"
	const others = "0123456789_-."
	for i := range 256 {
		c := string([]byte{byte(i)})
		first, later := api.ErrName, api.ErrName
		if strings.Contains(letters, c) {
			first = api.OK
		}
		if strings.Contains(letters+others, c) {
			later = api.OK
		}
		named(c, first)
		named(c+"a", first)
		named("a"+c, later)
		named("a"+c+"b", later)
		named(long(31)+c, later)
		named(c+long(31), first)
		named(long(32)+c, api.ErrName)
	}
	for _, name := range []string{"9p", "_p", "-p", ".p", " p", "p ", "p q", "pä", "ä", "p\n", "p\x00", "\x00", "é", "\u212a", "\uff41", "p\xff"} {
		named(name, api.ErrName)
	}
	for _, name := range []string{"p.q-r_9", "Z", "a", "z", "A", "a..", "a--", "a__", "a0"} {
		named(name, api.OK)
	}
}

// P6.1: how many arguments and how many instructions there may be.
func TestArgsAndLength(t *testing.T) {
	for n := 0; n <= 16; n++ {
		checked(t, api.Proc{Name: "p", Args: n}, 0, api.OK)
	}
	for _, n := range []int{-1, -2, -16, 17, 18, 255, 256, 1 << 32, math.MinInt, math.MaxInt} {
		checked(t, api.Proc{Name: "p", Args: n}, -1, api.ErrArg)
	}
	for n := 0; n <= 64; n++ {
		checked(t, of(stops(n)...), 0, api.OK)
	}
	for _, n := range []int{65, 66, 128, 256, 1000, 65536} {
		checked(t, of(stops(n)...), -1, api.ErrLong)
		checked(t, of(make([]api.Instr, n)...), -1, api.ErrLong)
	}
}

// P6.1: of two errors, or more, the first one of the list is told.
func TestCheckOrder(t *testing.T) {
	bad := api.Instr{Op: api.OpStop, A: 1}
	for _, name := range []string{"p", "", "9"} {
		for _, args := range []int{0, 16, -1, 17} {
			for _, code := range [][]api.Instr{nil, stops(64), stops(65), {bad}, slices.Repeat([]api.Instr{bad}, 65), {{Op: api.OpSet, Value: text(long(257))}}} {
				agrees(t, api.Proc{Name: name, Args: args, Code: code})
			}
		}
	}
	checked(t, api.Proc{Name: "", Args: -1, Code: stops(65)}, -1, api.ErrName)
	checked(t, api.Proc{Name: "p", Args: -1, Code: stops(65)}, -1, api.ErrArg)
	checked(t, api.Proc{Name: "p", Args: 0, Code: make([]api.Instr, 65)}, -1, api.ErrLong)
	checked(t, api.Proc{Name: "p", Args: 0, Code: make([]api.Instr, 64)}, 0, api.ErrOp)
}

// P6.1: each operation, and numbers that are none.
func TestOperations(t *testing.T) {
	if len(shapes) != 16 {
		t.Fatal("the table has another number of operations")
	}
	for op := 1; op <= 16; op++ {
		checked(t, of(plain(op), api.Instr{Op: api.OpStop}), 0, api.OK)
	}
	for _, op := range append(edges(), 17, 18, 32, 257, 272, -16) {
		if op < 1 || op > 16 {
			checked(t, of(api.Instr{Op: op}), 0, api.ErrOp)
			checked(t, of(stops(3)[0], api.Instr{Op: op}), 1, api.ErrOp)
			checked(t, of(api.Instr{Op: op, Value: text(long(257))}), 0, api.ErrOp)
		}
	}
}

// P6.1: each field of each operation about its limits, with one, with two of them turned.
func TestFields(t *testing.T) {
	letters := "ABCN"
	for op := 1; op <= 16; op++ {
		for _, x := range letters {
			for _, n := range edges() {
				for _, args := range []int{0, 1, 7, 16} {
					in := plain(op)
					*part(&in, x) = n
					agrees(t, api.Proc{Name: "p", Args: args, Code: append([]api.Instr{in}, stops(7)...)})
				}
				for _, y := range letters {
					in := plain(op)
					*part(&in, x), *part(&in, y) = n, 1
					agrees(t, of(append([]api.Instr{in}, stops(1)...)...))
				}
			}
		}
	}
	// Said once more without the table: what may just be, and what may not.
	for _, in := range []api.Instr{
		{Op: api.OpSet, A: 15}, {Op: api.OpArg, A: 15, N: 15}, {Op: api.OpGet, A: 15, B: 15}, {Op: api.OpNext, A: 15, B: 15},
		{Op: api.OpPut, A: 15, B: 15}, {Op: api.OpDel, A: 15}, {Op: api.OpTell, A: 15}, {Op: api.OpAdd, A: 15, B: 15, C: 15},
		{Op: api.OpSub, A: 15, B: 15, C: 15}, {Op: api.OpMul, A: 15, B: 15, C: 15}, {Op: api.OpJoin, A: 15, B: 15, C: 15},
		{Op: api.OpNeed, B: 15, C: 15, N: 6}, {Op: api.OpSkip, A: 1, B: 15, C: 15, N: 6},
		{Op: api.OpSum, A: 15, B: 15, C: 15, N: 64}, {Op: api.OpCount, A: 15, B: 15, C: 15, N: 64}, {Op: api.OpStop},
	} {
		checked(t, of(in, api.Instr{Op: api.OpStop}), 0, api.OK)
		for _, letter := range letters {
			more := in
			*part(&more, letter)++
			checked(t, of(more, api.Instr{Op: api.OpStop}), 0, api.ErrOp)
			*part(&more, letter) = -1
			checked(t, of(more, api.Instr{Op: api.OpStop}), 0, api.ErrOp)
		}
	}
}

// P6.1: numbers that start at 1.
func TestFieldsFromOne(t *testing.T) {
	for _, in := range []api.Instr{{Op: api.OpNeed}, {Op: api.OpSkip, A: 1}, {Op: api.OpSkip, N: 1}, {Op: api.OpSum}, {Op: api.OpCount}} {
		checked(t, of(in, api.Instr{Op: api.OpStop}), 0, api.ErrOp)
	}
	for how := 1; how <= 6; how++ {
		checked(t, of(api.Instr{Op: api.OpNeed, N: how}), 0, api.OK)
		checked(t, of(api.Instr{Op: api.OpSkip, A: 1, N: how}, api.Instr{Op: api.OpStop}), 0, api.OK)
	}
	for n := 1; n <= 64; n++ {
		checked(t, of(api.Instr{Op: api.OpSum, N: n}, api.Instr{Op: api.OpCount, N: n}), 0, api.OK)
	}
}

// P6.1: a Value of an operation that has none, whichever part of it is set.
func TestValueNotHad(t *testing.T) {
	taken, refused := values()
	for op := 2; op <= 16; op++ {
		for _, v := range append(taken, refused...) {
			in := plain(op)
			in.Value = v
			want := api.ErrOp
			if v == nothing {
				want = api.OK
			}
			checked(t, of(in, api.Instr{Op: api.OpStop}), 0, want)
		}
	}
}

// P6.1: an argument's number is below how many there are.
func TestArgument(t *testing.T) {
	for args := 0; args <= 16; args++ {
		for n := -1; n <= 17; n++ {
			p := api.Proc{Name: "p", Args: args, Code: []api.Instr{{Op: api.OpArg, N: n}}}
			if n >= 0 && n < args {
				checked(t, p, 0, api.OK)
			} else {
				checked(t, p, 0, api.ErrOp)
			}
		}
	}
}

// P6.1: a skip goes no further than the row's end.
func TestSkip(t *testing.T) {
	for _, size := range []int{1, 2, 3, 10, 64} {
		for i := range size {
			for a := -1; a <= size+1; a++ {
				p := of(stops(size)...)
				p.Code[i] = api.Instr{Op: api.OpSkip, A: a, N: 1}
				if a >= 1 && i+a < size {
					checked(t, p, 0, api.OK)
				} else {
					checked(t, p, i, api.ErrOp)
				}
			}
		}
	}
	for _, a := range []int{math.MaxInt, math.MinInt, 1 << 32} {
		checked(t, of(api.Instr{Op: api.OpSkip, A: a, N: 1}, api.Instr{Op: api.OpStop}), 0, api.ErrOp)
	}
}

// P6.1: the Value of OpSet with each error of chapter 5; a field that offends comes ahead of it.
func TestSetValue(t *testing.T) {
	taken, refused := values()
	for _, v := range append(taken, refused...) {
		want := slowValue(v)
		set := api.Instr{Op: api.OpSet, A: 3, Value: v}
		checked(t, of(set), 0, want)
		at := 0
		if want != api.OK {
			at = 1
		}
		checked(t, of(plain(api.OpDel), set), at, want)
		for _, letter := range "ABCN" {
			turned := set
			*part(&turned, letter) = 16
			checked(t, of(turned), 0, api.ErrOp)
			*part(&turned, letter) = -1
			checked(t, of(turned), 0, api.ErrOp)
		}
	}
	for _, v := range refused {
		if slowValue(v) == api.OK {
			t.Fatal("a value that is taken")
		}
	}
}

// P6.1: of several that offend the first one, wherever it stands.
func TestFirstOffends(t *testing.T) {
	bad := []api.Instr{{}, {Op: 17}, {Op: api.OpStop, N: 1}, {Op: api.OpGet, A: 16}, {Op: api.OpSet, Value: text(long(257))}, {Op: api.OpSet, Value: api.Value{Kind: 9}}}
	want := []api.Errno{api.ErrOp, api.ErrOp, api.ErrOp, api.ErrOp, api.ErrLong, api.ErrKind}
	for i := range 64 {
		for j := i; j < 64; j += 7 {
			for k := range bad {
				p := of(stops(64)...)
				p.Code[j] = bad[(k+i)%len(bad)]
				p.Code[i] = bad[k]
				checked(t, p, i, want[k])
			}
		}
	}
}

// anyInstr is a random instruction, mostly one that may stand ahead of so many others.
func anyInstr(r *rand.Rand, args, behind int) api.Instr {
	in := api.Instr{Op: 1 + r.Intn(16)}
	for _, letter := range shapes[in.Op] {
		if letter == 'v' {
			taken, _ := values()
			in.Value = taken[r.Intn(len(taken))]
			continue
		}
		least, most := bounds(letter, args, behind)
		if most < least {
			return api.Instr{Op: api.OpStop}
		}
		*part(&in, letter) = least + r.Intn(most-least+1)
	}
	if r.Intn(40) == 0 {
		all := edges()
		*part(&in, rune("ABCN"[r.Intn(4)])) = all[r.Intn(len(all))]
	}
	if r.Intn(100) == 0 {
		_, refused := values()
		in.Value = refused[r.Intn(len(refused))]
	}
	return in
}

// anyProc is a random procedure, often one that Check takes.
func anyProc(r *rand.Rand) api.Proc {
	p := api.Proc{Name: "p" + strings.Repeat("-", r.Intn(33)), Args: r.Intn(18)}
	n := r.Intn(20)
	if r.Intn(10) == 0 {
		n = 60 + r.Intn(6)
	}
	for i := range n {
		p.Code = append(p.Code, anyInstr(r, p.Args, n-i-1))
	}
	return p
}

// P6.1: random procedures against the chapter's words.
func TestCheckAgainstWords(t *testing.T) {
	r := rand.New(rand.NewSource(6))
	taken := 0
	for range 10000 {
		p := anyProc(r)
		agrees(t, p)
		if _, e := slowCheck(p); e == api.OK {
			taken++
		}
	}
	if taken < 2000 {
		t.Errorf("only %d are taken", taken)
	}
}
