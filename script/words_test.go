package script_test

import (
	"fmt"
	"math"
	"math/rand"
	"reflect"
	"regexp"
	"strconv"
	"strings"
	"testing"

	"treadle/api"
	"treadle/asm"
	"treadle/script"
)

func num(n int64) api.Value { return api.Value{Kind: api.KindInt, Int: n} }

func text(s string) api.Value { return api.Value{Kind: api.KindText, Text: s} }

func call(name string, args ...api.Value) api.Txn {
	return api.Txn{Kind: api.TxnCall, Name: name, Args: args}
}

func define(p api.Proc) api.Txn { return api.Txn{Kind: api.TxnDefine, Proc: p} }

// Steps, each with what its kind has.

func open(segment, page, workers int) api.Step {
	return api.Step{Kind: api.StepOpen, Rules: api.Rules{Segment: segment, Page: page, Workers: workers}}
}

func submit(txns ...api.Txn) api.Step { return api.Step{Kind: api.StepSubmit, Txns: txns} }

func plain(kind int) api.Step { return api.Step{Kind: kind} }

func read(key string) api.Step { return api.Step{Kind: api.StepRead, Key: key} }

func span(from, to string, n int) api.Step {
	return api.Step{Kind: api.StepRange, Key: from, To: to, N: n}
}

func step(n int) api.Step { return api.Step{Kind: api.StepStep, N: n} }

func plan(strokes, reads []api.Fault) api.Step {
	return api.Step{Kind: api.StepPlan, Plan: api.Plan{Strokes: strokes, Reads: reads}}
}

func crash(names int, files ...api.Pick) api.Step {
	return api.Step{Kind: api.StepCrash, Picks: api.Picks{Names: names, Files: files}}
}

func hand(name, data string) api.Step {
	return api.Step{Kind: api.StepHand, Name: name, Data: []byte(data)}
}

// bare is the kinds that have nothing but their word.
var bare = map[string]int{
	"flush": api.StepFlush, "start": api.StepStart, "trim": api.StepTrim, "close": api.StepClose, "sight": api.StepSight, "files": api.StepFiles,
}

var faultKinds = map[string]int{"off": api.FaultOff, "io": api.FaultIO, "full": api.FaultFull}

// put2 is the procedure of chapter 6's examples.
func put2() api.Proc {
	return api.Proc{Name: "put2", Args: 2, Code: []api.Instr{
		{Op: api.OpArg}, {Op: api.OpArg, A: 1, N: 1}, {Op: api.OpPut, B: 1}, {Op: api.OpStop}}}
}

// long is a text of so many bytes.
func long(n int) string { return strings.Repeat("n", n) }

// rows is a text of these lines.
func rows(lines ...string) string { return strings.Join(lines, "\n") + "\n" }

// told is something in words; of a long one its beginning.
func told(x any) string {
	s := fmt.Sprintf("%+q", fmt.Sprintf("%+v", x))
	return s[:min(len(s), 400)]
}

// tidy is steps that were copied, lists without an element being none.
func tidy(steps []api.Step) []api.Step {
	var out []api.Step
	for _, s := range steps {
		s.Txns = listed(s.Txns)
		for i, x := range s.Txns {
			s.Txns[i].Args = listed(x.Args)
			s.Txns[i].Proc.Code = listed(x.Proc.Code)
		}
		s.Plan.Strokes, s.Plan.Reads = listed(s.Plan.Strokes), listed(s.Plan.Reads)
		s.Picks.Files = listed(s.Picks.Files)
		for i, p := range s.Picks.Files {
			s.Picks.Files[i].Lost = listed(p.Lost)
		}
		s.Data = listed(s.Data)
		out = append(out, s)
	}
	return out
}

// listed is a copy of a list; none, if it has no element.
func listed[V any](l []V) []V { return append([]V(nil), l...) }

// same tells whether steps are the same; a list without an element is as good as none.
func same(a, b []api.Step) bool { return reflect.DeepEqual(tidy(a), tidy(b)) }

// parsed asks Parse, and holds its answer against what is wanted.
func parsed(t testing.TB, s string, want []api.Step, line int, err api.Errno) {
	t.Helper()
	if l, n, e := script.Parse(s); e != err || n != line || !same(l, want) {
		t.Errorf("P19.1: Parse(%s): %s, %d, %v, not %s, %d, %v", told(s), told(l), n, e, told(want), line, err)
	}
}

// takes is a text of which Parse says these steps.
func takes(t testing.TB, s string, want ...api.Step) {
	t.Helper()
	parsed(t, s, want, 0, api.OK)
}

// refuses is a text of which Parse refuses this line.
func refuses(t testing.TB, s string, line int) {
	t.Helper()
	parsed(t, s, nil, line, api.ErrText)
}

// agrees holds Parse against the chapter's words, and tells what they say.
func agrees(t testing.TB, s string) api.Errno {
	t.Helper()
	l, line, e := slowParse(s)
	parsed(t, s, l, line, e)
	return e
}

// What a line is made of, as chapter 7 says it.
var (
	rest     = regexp.MustCompile(`^[ \t]*(#(?s:.*))?$`)
	inQuotes = regexp.MustCompile(`^[ \t]*(` + textForm + `)([ \t#]|$)`)
	plainly  = regexp.MustCompile(`^[ \t]*([^ \t#"][^ \t#]*)`)
	escapes  = regexp.MustCompile(`\\x..|\\.`)
)

const (
	intForm   = `(?:0|-?[1-9][0-9]*)`
	textForm  = `"(?:[ !#-\[\]-~]|\\"|\\\\|\\x[0-9a-f][0-9a-f])*"`
	valueForm = `(?:none|` + intForm + `|` + textForm + `)`
	nameForm  = `[a-zA-Z][a-zA-Z0-9_.-]{0,31}`
)

// lineForms is the chapter's table: what a line is like, its words with one blank between.
var lineForms = map[string]*regexp.Regexp{
	"open":   lineForm("open I I I"),
	"submit": lineForm("submit"),
	"flush":  lineForm("flush"), "start": lineForm("start"), "trim": lineForm("trim"), "close": lineForm("close"), "sight": lineForm("sight"), "files": lineForm("files"),
	"read":  lineForm("read T"),
	"range": lineForm("range T T I"),
	"step":  lineForm("step I"),
	"plan":  lineForm("plan( (stroke|reading) I (off|io|full))*"),
	"crash": lineForm("crash I( file I( I)*)*"),
	"hand":  lineForm("hand T T"),
	"call":  lineForm("call N( V)*"),
	"done":  lineForm("done"),
}

// lineForm is what a row of the table says, in which I, T, V and N are an INT, a TEXT, a VALUE and a procedure's name.
func lineForm(row string) *regexp.Regexp {
	return regexp.MustCompile("^" + strings.NewReplacer("I", intForm, "T", textForm, "V", valueForm, "N", nameForm).Replace(row) + "$")
}

// slowWords is the words of a line, and whether they are some.
func slowWords(line string) ([]string, bool) {
	var out []string
	for !rest.MatchString(line) {
		at := inQuotes.FindStringSubmatchIndex(line)
		if at == nil {
			at = plainly.FindStringSubmatchIndex(line)
		}
		if at == nil {
			return nil, false
		}
		out = append(out, line[at[2]:at[3]])
		line = line[at[3]:]
	}
	return out, true
}

// slowText is what a text in quotes says.
func slowText(w string) string {
	return escapes.ReplaceAllStringFunc(w[1:len(w)-1], func(s string) string {
		if len(s) == 2 {
			return s[1:]
		}
		n, _ := strconv.ParseUint(s[2:], 16, 8)
		return string([]byte{byte(n)})
	})
}

// slowValue is the VALUE of a word, and whether it is one.
func slowValue(w string) (api.Value, bool) {
	switch {
	case w == "none":
		return api.Value{}, true
	case w[0] == '"':
		s := slowText(w)
		return text(s), len(s) <= 256
	}
	n, err := strconv.ParseInt(w, 10, 64)
	return num(n), err == nil
}

// slowLine is the step of a line that is like its row of the table, and whether its numbers may be.
func slowLine(words []string) (s api.Step, ok bool) {
	ok = true
	number := func(i int) int {
		n, err := strconv.ParseInt(words[i], 10, 64)
		ok = ok && err == nil
		return int(n)
	}
	switch words[0] {
	case "open":
		s = open(number(1), number(2), number(3))
	case "submit":
		s = submit()
	case "read":
		s = read(slowText(words[1]))
	case "range":
		s = span(slowText(words[1]), slowText(words[2]), number(3))
	case "step":
		s = step(number(1))
	case "hand":
		s = hand(slowText(words[1]), slowText(words[2]))
	case "plan":
		s = plan(nil, nil)
		for i := 1; i < len(words); i += 3 {
			f := api.Fault{At: number(i + 1), Kind: faultKinds[words[i+2]]}
			if words[i] == "stroke" {
				s.Plan.Strokes = append(s.Plan.Strokes, f)
			} else {
				s.Plan.Reads = append(s.Plan.Reads, f)
			}
		}
	case "crash":
		s = crash(number(1))
		for i := 2; i < len(words); i++ {
			if words[i] == "file" {
				i++
				s.Picks.Files = append(s.Picks.Files, api.Pick{Done: number(i)})
				continue
			}
			last := &s.Picks.Files[len(s.Picks.Files)-1]
			last.Lost = append(last.Lost, number(i))
		}
	default:
		s = plain(bare[words[0]])
	}
	return s, ok
}

// slowCall is the call of a line that is like its row, and whether its values are some.
func slowCall(words []string) (api.Txn, bool) {
	x, all := call(words[1]), true
	for _, w := range words[2:] {
		v, ok := slowValue(w)
		x.Args, all = append(x.Args, v), all && ok
	}
	return x, all
}

// slowParse is Parse as the chapter says it, line by line.
func slowParse(s string) ([]api.Step, int, api.Errno) {
	if s == "" {
		return nil, 0, api.OK
	}
	all := strings.Split(strings.TrimSuffix(s, "\n"), "\n")
	var steps []api.Step
	submitting, head := false, -1
	for i, row := range all {
		words, ok := slowWords(row)
		if !ok {
			return nil, i + 1, api.ErrText
		}
		if len(words) == 0 {
			continue
		}
		last := len(steps) - 1
		form := lineForms[words[0]]
		like := form != nil && form.MatchString(strings.Join(words, " "))
		switch {
		case head >= 0 && words[0] == "end" && len(words) == 1:
			p, line, e := asm.Parse(strings.Join(all[head:i+1], "\n"))
			if e != api.OK {
				return nil, head + line, e
			}
			steps[last].Txns = append(steps[last].Txns, define(p))
			head = -1
		case head >= 0:
			// A line may stand in a procedure, if it may stand alone in one, whatever Check says of it there.
			if _, _, e := asm.Parse("proc p 16\n" + row + "\nend"); e == api.ErrText || words[0] == "end" {
				return nil, i + 1, api.ErrText
			}
		case submitting && words[0] == "proc":
			if _, _, e := asm.Parse(row + "\nend"); e == api.ErrText {
				return nil, i + 1, api.ErrText
			}
			head = i
		case !like || submitting != (words[0] == "call" || words[0] == "done"):
			return nil, i + 1, api.ErrText
		case words[0] == "done":
			submitting = false
		case words[0] == "call":
			x, ok := slowCall(words)
			if !ok {
				return nil, i + 1, api.ErrText
			}
			steps[last].Txns = append(steps[last].Txns, x)
		default:
			x, ok := slowLine(words)
			if !ok {
				return nil, i + 1, api.ErrText
			}
			steps = append(steps, x)
			submitting = words[0] == "submit"
		}
	}
	if submitting {
		return nil, len(all), api.ErrText
	}
	return steps, 0, api.OK
}

// Steps of all kinds.

var someInts = []int{0, 1, -1, 2, 5, 10, -10, 99, 1 << 31, -1 << 31, math.MaxInt, math.MinInt, math.MaxInt - 1}

func anyInt(r *rand.Rand) int {
	if r.Intn(2) == 0 {
		return r.Intn(20) - 3
	}
	return someInts[r.Intn(len(someInts))]
}

var someTexts = []string{"", "a", " ", "#", "\"", "\\", "a # b", "\x00", "\n", "\t\r", "\x7f\x80\xff", "é", "none", "1", "done", "\\x0a", long(64), long(256)}

func anyText(r *rand.Rand) string {
	if r.Intn(3) > 0 {
		return someTexts[r.Intn(len(someTexts))]
	}
	b := make([]byte, r.Intn(12))
	for i := range b {
		b[i] = byte(r.Intn(256))
	}
	return string(b)
}

func anyValue(r *rand.Rand) api.Value {
	switch r.Intn(3) {
	case 0:
		return api.Value{}
	case 1:
		return num(int64(anyInt(r)))
	}
	return text(anyText(r))
}

// someProcs is procedures that chapter 6 takes, with each operation among them.
func someProcs() []api.Proc {
	all := []string{
		"proc p 0\nend",
		"proc put2 2\narg r0 0\narg r1 1\nput r0 r1\nstop\nend",
		"proc a.b-c_9 16\nset r0 none\nset r1 -9223372036854775808\nset r2 \"a # \\\" \\\\ \\x00\\xff\"\narg r15 15\nget r0 r1\nnext r2 r3\ndel r4\ntell r5\nend",
		"proc end 3\nadd r0 r1 r2\nsub r3 r4 r5\nmul r6 r7 r8\njoin r9 r10 r11\nneed r0 = r1\nneed r0 != r1\nskip 2 r1 < r2\nskip 1 r1 <= r2\nneed r3 > r4\nneed r3 >= r4\nsum r0 r1 r2 64\ncount r0 r1 r2 1\nstop\nend",
		"proc " + long(32) + " 1\n" + strings.Repeat("stop\n", 64) + "end",
	}
	var out []api.Proc
	for _, s := range all {
		p, line, e := asm.Parse(s)
		if e != api.OK {
			panic(fmt.Sprint(s, line, e))
		}
		out = append(out, p)
	}
	return out
}

func anyTxn(r *rand.Rand) api.Txn {
	if r.Intn(3) == 0 {
		all := someProcs()
		return define(all[r.Intn(len(all))])
	}
	x := call([]string{"p", "put2", "done", "end", "call", "a.b-c_9", "none", "Z", long(32)}[r.Intn(9)])
	for range r.Intn(4) * r.Intn(6) {
		x.Args = append(x.Args, anyValue(r))
	}
	return x
}

func anyFaults(r *rand.Rand) []api.Fault {
	var out []api.Fault
	for range r.Intn(4) {
		out = append(out, api.Fault{At: anyInt(r), Kind: 1 + r.Intn(3)})
	}
	return out
}

// anyStep is a step that has what its kind has, and nothing else.
func anyStep(r *rand.Rand) api.Step {
	switch kind := 1 + r.Intn(14); kind {
	case api.StepOpen:
		return open(anyInt(r), anyInt(r), anyInt(r))
	case api.StepSubmit:
		s := submit()
		for range r.Intn(5) {
			s.Txns = append(s.Txns, anyTxn(r))
		}
		return s
	case api.StepRead:
		return read(anyText(r))
	case api.StepRange:
		return span(anyText(r), anyText(r), anyInt(r))
	case api.StepStep:
		return step(anyInt(r))
	case api.StepPlan:
		return plan(anyFaults(r), anyFaults(r))
	case api.StepCrash:
		s := crash(anyInt(r))
		for range r.Intn(4) {
			p := api.Pick{Done: anyInt(r)}
			for range r.Intn(4) {
				p.Lost = append(p.Lost, anyInt(r))
			}
			s.Picks.Files = append(s.Picks.Files, p)
		}
		return s
	case api.StepHand:
		return hand(anyText(r), anyText(r))
	default:
		return plain(kind)
	}
}

func anySteps(r *rand.Rand) []api.Step {
	var out []api.Step
	for range r.Intn(8) {
		out = append(out, anyStep(r))
	}
	return out
}

// each is one step of each kind, or several, with all that the kind has.
func each() []api.Step {
	return []api.Step{
		open(100, 2, -1), open(math.MaxInt, math.MinInt, 0),
		submit(), submit(call("p")), submit(define(put2()), call("put2", text("a\n"), num(-3), api.Value{}), define(someProcs()[3])),
		plain(api.StepFlush), read("a"), read("\x00"), span("a", "", -1), span("", "\"\\#", 5), plain(api.StepStart), step(5), plain(api.StepTrim), plain(api.StepClose), plain(api.StepSight),
		plan(nil, nil), plan([]api.Fault{{At: 3, Kind: api.FaultOff}, {At: 4, Kind: api.FaultFull}}, []api.Fault{{At: 1, Kind: api.FaultIO}, {At: -1, Kind: api.FaultOff}}),
		crash(1), crash(-1, api.Pick{Done: 2, Lost: []int{0, 5}}, api.Pick{}, api.Pick{Done: math.MinInt, Lost: []int{math.MaxInt}}),
		hand("x", "\"\x00"), hand("", ""), plain(api.StepFiles),
	}
}
