package asm_test

import (
	"fmt"
	"math"
	"math/rand"
	"runtime"
	"slices"
	"strconv"
	"strings"
	"testing"
	"unsafe"
	"weak"

	"treadle/api"
	"treadle/asm"
	"treadle/proc"
)

// printed is the text of a procedure that Check takes.
func printed(t *testing.T, p api.Proc) string {
	t.Helper()
	s, e := asm.Print(p)
	if e != api.OK {
		t.Fatalf("P7.2: Print(%s): %v", told(p), e)
	}
	return s
}

// slowQuoted is a text in quotes as the chapter says it.
func slowQuoted(s string) string {
	out := `"`
	for _, c := range []byte(s) {
		switch {
		case c == '"':
			out += `\"`
		case c == '\\':
			out += `\\`
		case c < 32 || c > 126:
			out += fmt.Sprintf(`\x%02x`, c)
		default:
			out += string([]byte{c})
		}
	}
	return out + `"`
}

// slowPrint is the text of a procedure as the chapter says it.
func slowPrint(p api.Proc) string {
	out := fmt.Sprintf("proc %s %d\n", p.Name, p.Args)
	for _, in := range p.Code {
		word, shape := "", ""
		for w, x := range shapes {
			if x.op == in.Op {
				word, shape = w, x.fields
			}
		}
		out += "  " + word
		for _, letter := range shape {
			n := *part(&in, letter)
			switch {
			case letter == 'n' || letter == 'k':
				out += fmt.Sprintf(" %d", n)
			case letter == 'm':
				out += " " + []string{"", "=", "!=", "<", "<=", ">", ">="}[n]
			case letter != 'v':
				out += fmt.Sprintf(" r%d", n)
			case in.Value.Kind == 0:
				out += " none"
			case in.Value.Kind == 1:
				out += fmt.Sprintf(" %d", in.Value.Int)
			default:
				out += " " + slowQuoted(in.Value.Text)
			}
		}
		out += "\n"
	}
	return out + "end\n"
}

// plain is an instruction of an operation that may stand ahead of another one.
func plain(op int) api.Instr {
	in := api.Instr{Op: op}
	switch op {
	case api.OpNeed, api.OpSum, api.OpCount:
		in.N = 1
	case api.OpSkip:
		in.A, in.N = 1, 1
	}
	return in
}

// values is some values.
func values() []api.Value {
	every := make([]byte, 256)
	for c := range every {
		every[c] = byte(c)
	}
	return []api.Value{nothing, num(0), num(1), num(-1), num(10), num(-1000000007), num(math.MaxInt64), num(math.MinInt64),
		text(""), text(" "), text("a"), text("none"), text("-1"), text(`"`), text(`\`), text(`\x00`), text(`\"`), text("#"), text(" # "), text("\n"), text("end\n"), text("\x00\xff"), text("é"), text(string(every)), text(long(256))}
}

// some is procedures that Check takes: each operation alone, each value, all of them in one, and rows of all lengths.
func some() []api.Proc {
	out := []api.Proc{put2(), {Name: "p"}, {Name: "proc", Args: 16}, {Name: long(32), Args: 7, Code: stops(1)}, of(stops(64)...)}
	all := of()
	for op := 1; op <= 16; op++ {
		all.Code = append(all.Code, plain(op))
		out = append(out, of(plain(op), api.Instr{Op: api.OpStop}))
	}
	for i, v := range values() {
		in := api.Instr{Op: api.OpSet, A: i % 16, Value: v}
		out = append(out, of(in))
		all.Code = append(all.Code, in)
	}
	skip := of(stops(64)...)
	skip.Code[0] = api.Instr{Op: api.OpSkip, A: 63, B: 15, C: 14, N: 6}
	return append(out, all, skip)
}

// anyInstr is a random instruction that may stand ahead of so many others.
func anyInstr(r *rand.Rand, args, behind int) api.Instr {
	in := api.Instr{Op: 1 + r.Intn(16)}
	for _, x := range shapes {
		for _, letter := range x.fields {
			if x.op == in.Op {
				*part(&in, letter) = r.Intn(16)
			}
		}
	}
	switch in.Op {
	case api.OpSet:
		in.N, in.Value = 0, values()[r.Intn(len(values()))]
	case api.OpArg:
		in.N = r.Intn(max(args, 1))
	case api.OpSum, api.OpCount:
		in.N = 1 + r.Intn(64)
	case api.OpNeed:
		in.N = 1 + r.Intn(6)
	case api.OpSkip:
		in.A, in.N = 1+r.Intn(max(behind, 1)), 1+r.Intn(6)
	}
	if in.Op == api.OpArg && args == 0 || in.Op == api.OpSkip && behind == 0 {
		return api.Instr{Op: api.OpStop}
	}
	return in
}

// anyProc is a random procedure that Check takes.
func anyProc(r *rand.Rand) api.Proc {
	p := api.Proc{Name: "p" + strings.Repeat("-", r.Intn(32)), Args: r.Intn(17)}
	n := r.Intn(12)
	if r.Intn(20) == 0 {
		n = 60 + r.Intn(5)
	}
	for i := range n {
		p.Code = append(p.Code, anyInstr(r, p.Args, n-i-1))
	}
	return p
}

// P7.2: the chapter's own.
func TestPrintKnown(t *testing.T) {
	if s := printed(t, put2()); s != put2Text {
		t.Errorf("P7.2: %q", s)
	}
	for _, p := range []api.Proc{{Name: "p"}, {Name: "p", Code: []api.Instr{}}} {
		if s := printed(t, p); s != "proc p 0\nend\n" {
			t.Errorf("P7.2: %q", s)
		}
	}
}

// P7.2: the line of each operation and of each comparison, written out.
func TestPrintOperations(t *testing.T) {
	lines := map[string]api.Instr{
		"set r5 none":            {Op: api.OpSet, A: 5},
		"set r15 -64":            {Op: api.OpSet, A: 15, Value: num(-64)},
		`set r0 "keel \"7\" \\"`: {Op: api.OpSet, Value: text(`keel "7" \`)},
		`set r0 ""`:              {Op: api.OpSet, Value: text("")},
		"set r0 0":               {Op: api.OpSet, Value: num(0)},
		`set r1 "0"`:             {Op: api.OpSet, A: 1, Value: text("0")},
		"arg r3 15":              {Op: api.OpArg, A: 3, N: 15},
		"get r1 r2":              {Op: api.OpGet, A: 1, B: 2},
		"put r3 r4":              {Op: api.OpPut, A: 3, B: 4},
		"del r9":                 {Op: api.OpDel, A: 9},
		"add r1 r2 r3":           {Op: api.OpAdd, A: 1, B: 2, C: 3},
		"sub r4 r5 r6":           {Op: api.OpSub, A: 4, B: 5, C: 6},
		"mul r7 r8 r9":           {Op: api.OpMul, A: 7, B: 8, C: 9},
		"join r10 r11 r12":       {Op: api.OpJoin, A: 10, B: 11, C: 12},
		"sum r1 r2 r3 64":        {Op: api.OpSum, A: 1, B: 2, C: 3, N: 64},
		"count r4 r5 r6 7":       {Op: api.OpCount, A: 4, B: 5, C: 6, N: 7},
		"next r15 r14":           {Op: api.OpNext, A: 15, B: 14},
		"tell r8":                {Op: api.OpTell, A: 8},
		"stop":                   {Op: api.OpStop},
		"need r13 = r14":         {Op: api.OpNeed, B: 13, C: 14, N: api.CompareEqual},
		"need r13 != r14":        {Op: api.OpNeed, B: 13, C: 14, N: api.CompareUnlike},
		"need r13 < r14":         {Op: api.OpNeed, B: 13, C: 14, N: api.CompareLess},
		"need r13 <= r14":        {Op: api.OpNeed, B: 13, C: 14, N: api.CompareMost},
		"need r13 > r14":         {Op: api.OpNeed, B: 13, C: 14, N: api.CompareGreater},
		"need r13 >= r14":        {Op: api.OpNeed, B: 13, C: 14, N: api.CompareLeast},
		"skip 1 r2 = r3":         {Op: api.OpSkip, A: 1, B: 2, C: 3, N: api.CompareEqual},
		"skip 1 r2 != r3":        {Op: api.OpSkip, A: 1, B: 2, C: 3, N: api.CompareUnlike},
		"skip 1 r2 < r3":         {Op: api.OpSkip, A: 1, B: 2, C: 3, N: api.CompareLess},
		"skip 1 r2 <= r3":        {Op: api.OpSkip, A: 1, B: 2, C: 3, N: api.CompareMost},
		"skip 1 r2 > r3":         {Op: api.OpSkip, A: 1, B: 2, C: 3, N: api.CompareGreater},
		"skip 1 r2 >= r3":        {Op: api.OpSkip, A: 1, B: 2, C: 3, N: api.CompareLeast},
	}
	for line, in := range lines {
		p := of(in, api.Instr{Op: api.OpDel, A: 7})
		want := "proc p 16\n  " + line + "\n  del r7\nend\n"
		if s := printed(t, p); s != want {
			t.Errorf("P7.2: %+v is %q, not %q", in, s, want)
		}
		takes(t, want, p)
	}
}

// P7.2: values of every kind, each byte within quotes.
func TestPrintValues(t *testing.T) {
	for c := range 256 {
		b := string([]byte{byte(c)})
		want := fmt.Sprintf(`\x%02x`, c)
		switch {
		case c == '"':
			want = `\"`
		case c == '\\':
			want = `\\`
		case c >= 32 && c <= 126:
			want = b
		}
		for _, x := range [][2]string{{b, want}, {b + b, want + want}, {"a" + b + "0", "a" + want + "0"}, {b + "é", want + `\xc3\xa9`}, {strings.Repeat(b, 256), strings.Repeat(want, 256)}} {
			p := set(text(x[0]))
			if s := printed(t, p); s != within(`  set r0 "`+x[1]+`"`) {
				t.Errorf("P7.2: %q is %q", x[0], s)
			}
			takes(t, printed(t, p), p)
		}
	}
	for _, n := range []int64{0, 1, -1, 9, 10, 99, -100, 1 << 40, math.MaxInt64, math.MinInt64} {
		if s := printed(t, set(num(n))); s != within("  set r0 "+strconv.FormatInt(n, 10)) {
			t.Errorf("P7.2: %d is %q", n, s)
		}
	}
	if s := printed(t, set(nothing)); s != within("  set r0 none") {
		t.Errorf("P7.2: nothing is %q", s)
	}
}

// P7.2, W3: Print refuses with the error of Check, and says nothing beside it.
func TestPrintRefuses(t *testing.T) {
	for want, all := range map[api.Errno][]api.Proc{
		api.ErrName: {{}, {Name: "9"}, {Name: long(33)}, {Name: "p q"}, {Name: "p\n"}, {Args: -1, Code: stops(65)}, {Name: `"p"`}},
		api.ErrArg:  {{Name: "p", Args: -1}, {Name: "p", Args: 17, Code: stops(65)}, {Name: "p", Args: math.MaxInt}, {Name: "p", Args: math.MinInt}},
		api.ErrLong: {of(stops(65)...), of(api.Instr{Op: api.OpSet, Value: text(long(257))}), of(make([]api.Instr, 100)...)},
		api.ErrOp: {of(api.Instr{}), of(api.Instr{Op: 17}), of(api.Instr{Op: -1}), of(api.Instr{Op: math.MaxInt}), of(api.Instr{Op: math.MinInt}), of(api.Instr{Op: api.OpStop, A: 1}),
			of(api.Instr{Op: api.OpTell, A: 16}), of(api.Instr{Op: api.OpTell, A: -1}), of(api.Instr{Op: api.OpNeed}), of(api.Instr{Op: api.OpNeed, N: 7}), of(api.Instr{Op: api.OpNeed, N: math.MaxInt}),
			of(api.Instr{Op: api.OpSkip, A: 1, N: 1}), of(api.Instr{Op: api.OpSum}), of(api.Instr{Op: api.OpCount, N: 65}), of(api.Instr{Op: api.OpArg, N: 16}), of(api.Instr{Op: api.OpArg, N: -1}),
			of(api.Instr{Op: api.OpSet, N: 1, Value: text(long(257))}), of(api.Instr{Op: api.OpStop, Value: num(1)}), of(append(stops(63), api.Instr{})...)},
		api.ErrKind: {set(api.Value{Kind: 3}), set(api.Value{Kind: -1}), set(api.Value{Kind: math.MaxInt}), of(stops(1)[0], api.Instr{Op: api.OpSet, Value: api.Value{Kind: 1, Text: "x"}}), set(api.Value{Int: 1}), set(api.Value{Kind: 2, Int: 1})},
	} {
		for _, p := range all {
			if s, e := asm.Print(p); e != want || s != "" {
				t.Errorf("P7.2: Print(%s): %q, %v, not %v", told(p), s, e, want)
			}
		}
	}
}

// P7.2: procedures, turned at random, against the chapter's words and Check.
func TestPrintAgainstWords(t *testing.T) {
	r := rand.New(rand.NewSource(72))
	edges := []int{-1, 0, 1, 6, 7, 15, 16, 17, 63, 64, 65, math.MaxInt, math.MinInt}
	errors := map[api.Errno]int{}
	for range 5000 {
		p := anyProc(r)
		if len(p.Code) > 0 && r.Intn(2) == 0 {
			in := &p.Code[r.Intn(len(p.Code))]
			n := edges[r.Intn(len(edges))]
			switch r.Intn(7) {
			case 0:
				in.Op = n
			case 1:
				in.Value.Kind = n
			case 2:
				*in = api.Instr{Op: api.OpSet, A: in.A, Value: text(long(250 + r.Intn(12)))}
			default:
				*part(in, rune("ABCn"[r.Intn(4)])) = n
			}
		}
		_, want := proc.Check(p)
		errors[want]++
		s, e := asm.Print(p)
		if e != want || e == api.OK && s != slowPrint(p) || e != api.OK && s != "" {
			t.Errorf("P7.2: Print(%s): %q, %v, not %v", told(p), s, e, want)
		}
	}
	if errors[api.OK] < 500 || errors[api.ErrOp] < 500 || errors[api.ErrKind] < 20 || errors[api.ErrLong] < 20 {
		t.Errorf("too few of a kind: %v", errors)
	}
}

// P7.3: there and back, of procedures, and of the texts that they are.
func TestThereAndBack(t *testing.T) {
	r := rand.New(rand.NewSource(73))
	all := some()
	for range 3000 {
		all = append(all, anyProc(r))
	}
	for _, p := range all {
		s := printed(t, p)
		if s != slowPrint(p) {
			t.Errorf("P7.2: %s is %q", told(p), s)
		}
		q, line, e := asm.Parse(s)
		if e != api.OK || line != 0 || !same(p, q) {
			t.Errorf("P7.3: %s comes back as %s, %d, %v", told(p), told(q), line, e)
		}
		if again := printed(t, q); again != s {
			t.Errorf("P7.3: %q comes back as %q", s, again)
		}
	}
}

// gaps is what may stand between two words, ahead of the first one, and behind the last one.
func gaps(r *rand.Rand) (between, ahead, behind string) {
	between = []string{" ", "\t", "  ", " \t\t "}[r.Intn(4)]
	ahead = []string{"", "", " ", "\t", "\n", " \n", "# x\n", "\n\n \t# \"y\n  "}[r.Intn(8)]
	behind = []string{"", "", " ", "\t", "#", " # z", "# \"", "\t#\\\xff\r", "\n", "\n#", "#\n\n\t"}[r.Intn(11)]
	return between, ahead, behind
}

// loosened is a text that says the same.
func loosened(r *rand.Rand, s string) string {
	out := ""
	for _, line := range strings.Split(strings.TrimSuffix(s, "\n"), "\n") {
		words, _ := slowWords(line)
		for i, w := range words {
			between, ahead, _ := gaps(r)
			if i == 0 {
				between = ahead
			}
			out += between + w
		}
		_, _, behind := gaps(r)
		out += behind + "\n"
	}
	if r.Intn(2) == 0 {
		return strings.TrimSuffix(out, "\n")
	}
	return out
}

// P7.4, P7.3: what stands between words makes no difference, and goes when the text is written again.
func TestLoose(t *testing.T) {
	r := rand.New(rand.NewSource(74))
	all := some()
	for range 2000 {
		all = append(all, anyProc(r))
	}
	for _, p := range all {
		tight := slowPrint(p)
		loose := loosened(r, tight)
		takes(t, loose, p)
		agrees(t, loose)
		q, _, _ := asm.Parse(loose)
		if s := printed(t, q); s != tight {
			t.Errorf("P7.3: %q is %q, not %q", loose, s, tight)
		}
	}
}

// P7.4: each thing that says nothing put in at each place between words, and left out where it may be.
func TestEveryPlace(t *testing.T) {
	p := of(api.Instr{Op: api.OpSet, A: 1, Value: text("a # \" b")}, api.Instr{Op: api.OpSkip, A: 1, B: 1, C: 2, N: api.CompareLeast}, api.Instr{Op: api.OpStop})
	lines := [][]string{{"proc", "p", "16"}, {"set", "r1", `"a # \" b"`}, {"skip", "1", "r1", ">=", "r2"}, {"stop"}, {"end"}}
	// write is the text with what stands at the place (how many words are ahead of it in its line) in that line.
	write := func(row, place int, put string) string {
		out := ""
		for i, words := range lines {
			for j, w := range append(slices.Clone(words), "") {
				if j > 0 && j < len(words) {
					out += " "
				}
				if i == row && j == place {
					out += put
				}
				out += w
			}
			out += "\n"
		}
		return out
	}
	takes(t, write(-1, 0, ""), p)
	for row, words := range lines {
		for place := range len(words) + 1 {
			for _, put := range []string{" ", "\t", "   ", "\t \t"} {
				takes(t, write(row, place, put), p)
			}
			for _, put := range []string{"\n", " \n", "# x\n", "#\"\n", "\n\n#\n"} {
				if place == 0 || place == len(words) {
					takes(t, write(row, place, put), p)
				} else {
					refuses(t, write(row, place, put), row+1) // a line's end within a line
				}
			}
			for _, put := range []string{"#", "# x", " # \""} {
				switch {
				case place == len(words):
					takes(t, write(row, place, put), p)
				case place == 0: // the line says nothing any more
					agrees(t, write(row, place, put))
				default:
					refuses(t, write(row, place, put), row+1)
				}
			}
		}
	}
	// Only the line's number changes with what says nothing.
	for n := range 20 {
		ahead := strings.Repeat("\n", n)
		refuses(t, ahead+"proc p 0\nx\nend\n", n+2)
		refuses(t, "proc p 0\n"+ahead+"x\nend\n", n+2)
		refuses(t, "proc p 0\nend\n"+ahead+"x", n+3)
		parsed(t, "proc p 0\n"+strings.Repeat("# \"\n", n)+"arg r0 0\nend\n", api.Proc{}, n+2, api.ErrOp)
	}
}

// pieces is what random texts are made of.
func pieces() []string {
	return append(kinds(), "proc", "end", "set", "arg", "get", "put", "del", "add", "need", "skip", "sum", "count", "next", "tell", "stop", "p", " ", "\t", "\n", "#", "\"", "\\", "\\x", "\r", "\x00", "\xff", "", "\n\n", " # ", "\"a b\"", "é")
}

// turned is a text with something put in, left out or changed.
func turned(r *rand.Rand, s string) string {
	all := pieces()
	for range 1 + r.Intn(2) {
		i := r.Intn(len(s) + 1)
		j := min(len(s), i+r.Intn(4))
		switch r.Intn(5) {
		case 0:
			s = s[:i] + all[r.Intn(len(all))] + s[i:]
		case 1:
			s = s[:i] + s[j:]
		case 2:
			s = s[:i] + string([]byte{byte(r.Intn(256))}) + s[j:]
		case 3:
			s = s[:i]
		default:
			s = replaceWord(r, s, all[r.Intn(len(all))])
		}
	}
	return s
}

// replaceWord puts another word in the place of one.
func replaceWord(r *rand.Rand, s, w string) string {
	lines := strings.Split(s, "\n")
	i := r.Intn(len(lines))
	words, ok := slowWords(lines[i])
	if !ok || len(words) == 0 {
		return s
	}
	words[r.Intn(len(words))] = w
	lines[i] = strings.Join(words, " ")
	return strings.Join(lines, "\n")
}

// P7.1: texts turned at random, and texts of random pieces, against the chapter's words.
func TestParseAgainstWords(t *testing.T) {
	r := rand.New(rand.NewSource(71))
	errors := map[api.Errno]int{}
	for range 20000 {
		p := anyProc(r)
		p.Code = p.Code[:min(len(p.Code), r.Intn(8))]
		s := slowPrint(p)
		if r.Intn(3) == 0 {
			s = loosened(r, s)
		}
		errors[agrees(t, turned(r, s))]++
	}
	for _, e := range []api.Errno{api.OK, api.ErrText, api.ErrName, api.ErrOp, api.ErrArg} {
		if errors[e] < 5 {
			t.Errorf("too few of a kind: %v", errors)
		}
	}
	all := pieces()
	for range 20000 {
		s := ""
		if r.Intn(2) == 0 {
			s = "proc p 3\n"
		}
		for range r.Intn(12) {
			s += all[r.Intn(len(all))] + []string{" ", "", "\n", "\t"}[r.Intn(4)]
		}
		if r.Intn(2) == 0 {
			s += "\nend"
		}
		agrees(t, s)
	}
}

// P7.1: each beginning of texts, and each byte of one turned into each other.
func TestEveryByte(t *testing.T) {
	texts := []string{put2Text, "#\n\tproc p 1 # x\n set r1 \"a\\x0a#\\\\\" #\"\n\nneed r0 <= r15\narg r0 0\nend#\n"}
	for _, s := range texts {
		for i := range len(s) + 1 {
			agrees(t, s[:i])
			agrees(t, s[i:])
		}
		for i := range s {
			for c := range 256 {
				b := []byte(s)
				b[i] = byte(c)
				agrees(t, string(b))
				agrees(t, s[:i]+string([]byte{byte(c)})+s[i:])
			}
		}
	}
}

// W1: great texts are read to their end.
func TestGreat(t *testing.T) {
	const n = 1 << 20
	takes(t, "#"+strings.Repeat("x", n)+"\n"+put2Text+strings.Repeat("\n", n)+strings.Repeat(" ", n), put2())
	refuses(t, put2Text+strings.Repeat("\n", n)+"x", n+7)
	refuses(t, "proc p 0\n"+strings.Repeat("stop ", n), 2)
	refuses(t, "proc p 0\nset r0 \""+strings.Repeat("\\\"", n), 2)
	refuses(t, strings.Repeat("\"", n), 1)
	parsed(t, "proc p 0\nset r0 \""+strings.Repeat("\\\"", n)+"\"\nend", api.Proc{}, 2, api.ErrLong)
	parsed(t, "proc "+strings.Repeat("p", n)+" 0\nend", api.Proc{}, 1, api.ErrName)
	parsed(t, "proc p 0\n"+strings.Repeat("stop\n", n)+"end", api.Proc{}, 1, api.ErrLong)
	refuses(t, "proc p "+strings.Repeat("1", n)+"\nend", 1)
}

// W6: what Print is handed stays as it was, with the room behind it.
func TestHandedInStays(t *testing.T) {
	for _, p := range append(some(), of(api.Instr{}), of(api.Instr{Op: api.OpStop}, api.Instr{Op: 99})) {
		room := slices.Concat(p.Code, []api.Instr{{Op: 77, A: 5, Value: text("spare")}, {Op: 78}})
		was := slices.Clone(room)
		p.Code = room[:len(p.Code)]
		asm.Print(p)
		if !slices.Equal(room, was) {
			t.Errorf("W6: Print has changed %s", told(p))
		}
	}
}

// W6: two answers share no memory, not even the room behind them.
func TestNewMemory(t *testing.T) {
	for _, p := range some() {
		s := printed(t, p)
		a, _, _ := asm.Parse(s)
		b, _, _ := asm.Parse(s)
		all := a.Code[:cap(a.Code)]
		for i := range all {
			all[i] = api.Instr{Op: 1000}
		}
		if !same(b, p) {
			t.Errorf("W6: %s is shared", told(p))
		}
		takes(t, s, p)
	}
}

// overlaps tells whether two texts have bytes in common.
func overlaps(a, b string) bool {
	if a == "" || b == "" {
		return false
	}
	x, y := uintptr(unsafe.Pointer(unsafe.StringData(a))), uintptr(unsafe.Pointer(unsafe.StringData(b)))
	return x < y+uintptr(len(b)) && y < x+uintptr(len(a))
}

// W6: the texts of an answer are none of what was handed in.
func TestTextsNotShared(t *testing.T) {
	s := strings.Clone(rows("proc "+long(30)+" 0", `set r0 "`+long(100)+`"`, `set r1 "`+long(101)+`\x00"`, "end"))
	p, _, e := asm.Parse(s)
	q, _, _ := asm.Parse(s)
	if e != api.OK {
		t.Fatal(e)
	}
	parts := []string{p.Name, p.Code[0].Value.Text, p.Code[1].Value.Text, q.Name, q.Code[0].Value.Text, q.Code[1].Value.Text, s}
	for i, a := range parts {
		for _, b := range parts[:i] {
			if overlaps(a, b) {
				t.Errorf("W6: %s and %s share memory", told(a), told(b))
			}
		}
	}
	out := printed(t, p)
	if overlaps(out, p.Name) || overlaps(out, p.Code[0].Value.Text) || overlaps(out, printed(t, p)) {
		t.Error("W6: Print answers what it was handed")
	}
}

// W6: a text handed in may be changed behind the call, and what was answered stays.
func TestParseKeepsNothing(t *testing.T) {
	b := []byte(rows("proc keel 0", `set r0 "a b c"`, "end"))
	p, _, _ := asm.Parse(unsafe.String(&b[0], len(b)))
	want := api.Proc{Name: "keel", Code: []api.Instr{{Op: api.OpSet, Value: text("a b c")}}}
	for i := range b {
		b[i] = 'z'
	}
	if !same(p, want) {
		t.Errorf("W6: %s", told(p))
	}
}

// W6: nothing of what was handed in is kept by the package or by an answer.
func TestNotKept(t *testing.T) {
	type held struct {
		rows  []weak.Pointer[[512]byte]
		codes []weak.Pointer[[2]api.Instr]
		keep  []any
	}
	handed := make(chan held)
	// A goroutine of its own, so that no stack of this one holds them any more.
	go func() {
		var h held
		row := func(s string) string {
			p := new([512]byte)
			h.rows = append(h.rows, weak.Make(p))
			copy(p[:], s)
			return unsafe.String(&p[0], len(s))
		}
		for _, s := range []string{put2Text, within(`set r0 "` + long(200) + `"`), within("x"), within("arg r0 99"), "proc " + long(33) + " 0\nend"} {
			p, line, e := asm.Parse(row(s))
			h.keep = append(h.keep, p, line, e)
		}
		for _, op := range []int{api.OpStop, 99} {
			code := new([2]api.Instr)
			h.codes = append(h.codes, weak.Make(code))
			code[0] = api.Instr{Op: api.OpSet, Value: text(row(long(200)))}
			code[1] = api.Instr{Op: op}
			s, e := asm.Print(api.Proc{Name: row(long(32)), Code: code[:]})
			h.keep = append(h.keep, s, e)
		}
		handed <- h
	}()
	h := <-handed
	for range 10 {
		runtime.GC()
	}
	for i, p := range h.rows {
		if p.Value() != nil {
			t.Errorf("W6: text %d is kept", i)
		}
	}
	for i, p := range h.codes {
		if p.Value() != nil {
			t.Errorf("W6: code %d is kept", i)
		}
	}
	runtime.KeepAlive(h.keep)
}
