package asm_test

import (
	"fmt"
	"math"
	"regexp"
	"slices"
	"strconv"
	"strings"
	"testing"

	"treadle/api"
	"treadle/asm"
	"treadle/proc"
)

var nothing = api.Value{}

func num(n int64) api.Value { return api.Value{Kind: api.KindInt, Int: n} }

func text(s string) api.Value { return api.Value{Kind: api.KindText, Text: s} }

// long is a name, or a text, of so many bytes.
func long(n int) string { return strings.Repeat("n", n) }

func put2() api.Proc {
	return api.Proc{Name: "put2", Args: 2, Code: []api.Instr{
		{Op: api.OpArg}, {Op: api.OpArg, A: 1, N: 1}, {Op: api.OpPut, B: 1}, {Op: api.OpStop}}}
}

const put2Text = "proc put2 2\n  arg r0 0\n  arg r1 1\n  put r0 r1\n  stop\nend\n"

// of is a procedure of these instructions, with all arguments that there may be.
func of(code ...api.Instr) api.Proc { return api.Proc{Name: "p", Args: api.MaxArgs, Code: code} }

// set is a procedure that lays one value in register 0.
func set(v api.Value) api.Proc { return of(api.Instr{Op: api.OpSet, Value: v}) }

// stops is so many instructions that do nothing.
func stops(n int) []api.Instr { return slices.Repeat([]api.Instr{{Op: api.OpStop}}, n) }

// rows is a text of these lines.
func rows(lines ...string) string { return strings.Join(lines, "\n") + "\n" }

// within is the text of a procedure p with these lines between its first and its last.
func within(lines ...string) string {
	return rows(slices.Concat([]string{"proc p 16"}, lines, []string{"end"})...)
}

// same tells whether two procedures are the same; a list without an element is as good as none.
func same(p, q api.Proc) bool {
	return p.Name == q.Name && p.Args == q.Args && slices.Equal(p.Code, q.Code)
}

// told is something in words; of a long one its beginning.
func told(x any) string {
	s := fmt.Sprintf("%+q", fmt.Sprint(x))
	return s[:min(len(s), 300)]
}

// shapes is the chapter's table: behind a word its operation, and its fields.
// A register A, B or C is that letter; n a number, k how many are left out, m
// a comparison, v a VALUE.
var shapes = map[string]struct {
	op     int
	fields string
}{
	"set": {api.OpSet, "Av"},
	"arg": {api.OpArg, "An"},
	"get": {api.OpGet, "AB"}, "next": {api.OpNext, "AB"},
	"put": {api.OpPut, "AB"},
	"del": {api.OpDel, "A"}, "tell": {api.OpTell, "A"},
	"add": {api.OpAdd, "ABC"}, "sub": {api.OpSub, "ABC"}, "mul": {api.OpMul, "ABC"}, "join": {api.OpJoin, "ABC"},
	"need": {api.OpNeed, "BmC"},
	"skip": {api.OpSkip, "kBmC"},
	"sum":  {api.OpSum, "ABCn"}, "count": {api.OpCount, "ABCn"},
	"stop": {api.OpStop, ""},
}

var compares = map[string]int{"=": 1, "!=": 2, "<": 3, "<=": 4, ">": 5, ">=": 6}

// part is the field that a letter speaks of.
func part(in *api.Instr, letter rune) *int {
	switch letter {
	case 'A', 'k':
		return &in.A
	case 'B':
		return &in.B
	case 'C':
		return &in.C
	}
	return &in.N
}

// What a line is made of, as the chapter says it.
var (
	rest     = regexp.MustCompile(`^[ \t]*(#(?s:.*))?$`)
	inQuotes = regexp.MustCompile(`^[ \t]*("([ !#-\[\]-~]|\\"|\\\\|\\x[0-9a-f][0-9a-f])*")([ \t#]|$)`)
	bare     = regexp.MustCompile(`^[ \t]*([^ \t#"][^ \t#]*)`)

	isRegister = regexp.MustCompile(`^r(\d|1[0-5])$`)
	isNumber   = regexp.MustCompile(`^(0|[1-9]\d{0,8})$`)
	isInt      = regexp.MustCompile(`^(0|-?[1-9]\d*)$`)
	escapes    = regexp.MustCompile(`\\x..|\\.`)
)

// slowWords is the words of a line, and whether they are some.
func slowWords(line string) ([]string, bool) {
	var out []string
	for !rest.MatchString(line) {
		at := inQuotes.FindStringSubmatchIndex(line)
		if at == nil {
			at = bare.FindStringSubmatchIndex(line)
		}
		if at == nil {
			return nil, false
		}
		out = append(out, line[at[2]:at[3]])
		line = line[at[3]:]
	}
	return out, true
}

// slowValue is the VALUE of a word.
func slowValue(w string) (api.Value, bool) {
	switch {
	case w == "none":
		return nothing, true
	case w[0] == '"':
		return text(escapes.ReplaceAllStringFunc(w[1:len(w)-1], func(s string) string {
			if len(s) == 2 {
				return s[1:]
			}
			n, _ := strconv.ParseUint(s[2:], 16, 8)
			return string([]byte{byte(n)})
		})), true
	case isInt.MatchString(w):
		n, err := strconv.ParseInt(w, 10, 64)
		return num(n), err == nil
	}
	return nothing, false
}

// slowField takes a word into an instruction, and tells whether it may stand there.
func slowField(in *api.Instr, letter rune, w string) (ok bool) {
	switch letter {
	case 'A', 'B', 'C':
		*part(in, letter), _ = strconv.Atoi(w[1:])
		return isRegister.MatchString(w)
	case 'n', 'k':
		*part(in, letter), _ = strconv.Atoi(w)
		return isNumber.MatchString(w)
	case 'm':
		in.N, ok = compares[w]
		return ok
	}
	in.Value, ok = slowValue(w)
	return ok
}

// slowInstr is the instruction of these words.
func slowInstr(words []string) (api.Instr, bool) {
	shape, ok := shapes[words[0]]
	in := api.Instr{Op: shape.op}
	if !ok || len(words) != 1+len(shape.fields) {
		return in, false
	}
	for i, letter := range shape.fields {
		if !slowField(&in, letter, words[1+i]) {
			return in, false
		}
	}
	return in, true
}

// slowParse is Parse as the chapter says it.
func slowParse(s string) (api.Proc, int, api.Errno) {
	all := strings.Split(strings.TrimSuffix(s, "\n"), "\n")
	p, head, at, ended := api.Proc{}, 0, []int{}, false
	for i, line := range all {
		words, ok := slowWords(line)
		switch {
		case ok && len(words) == 0:
		case !ok || ended:
			return api.Proc{}, i + 1, api.ErrText
		case head == 0:
			if len(words) != 3 || words[0] != "proc" || words[1][0] == '"' || !isNumber.MatchString(words[2]) {
				return api.Proc{}, i + 1, api.ErrText
			}
			head, p.Name = i+1, words[1]
			p.Args, _ = strconv.Atoi(words[2])
		case len(words) == 1 && words[0] == "end":
			ended = true
		default:
			in, ok := slowInstr(words)
			if !ok {
				return api.Proc{}, i + 1, api.ErrText
			}
			p.Code, at = append(p.Code, in), append(at, i+1)
		}
	}
	if !ended {
		return api.Proc{}, len(all), api.ErrText
	}
	switch place, e := proc.Check(p); {
	case e == api.OK:
		return p, 0, api.OK
	case place < 0:
		return api.Proc{}, head, e
	default:
		return api.Proc{}, at[place], e
	}
}

// parsed asks Parse, and holds its answer against what is wanted.
func parsed(t *testing.T, s string, want api.Proc, line int, err api.Errno) {
	t.Helper()
	if p, n, e := asm.Parse(s); e != err || n != line || !same(p, want) {
		t.Errorf("P7.1: Parse(%s): %s, %d, %v, not %s, %d, %v", told(s), told(p), n, e, told(want), line, err)
	}
}

// takes is a text of which Parse says this procedure.
func takes(t *testing.T, s string, want api.Proc) {
	t.Helper()
	parsed(t, s, want, 0, api.OK)
}

// refuses is a text of which Parse refuses this line.
func refuses(t *testing.T, s string, line int) {
	t.Helper()
	parsed(t, s, api.Proc{}, line, api.ErrText)
}

// agrees holds Parse against the chapter's words.
func agrees(t *testing.T, s string) api.Errno {
	t.Helper()
	p, line, e := slowParse(s)
	parsed(t, s, p, line, e)
	return e
}

// P7.1: the chapter's own.
func TestParseKnown(t *testing.T) {
	takes(t, put2Text, put2())
	takes(t, strings.TrimSuffix(put2Text, "\n"), put2())
	p := api.Proc{Name: "p", Code: []api.Instr{{Op: api.OpSet, Value: text("a # b\n")}}}
	takes(t, rows("proc p 0 # two", "", `set r0 "a # b\x0a" # c`, "end"), p)
	refuses(t, "", 1)
	refuses(t, "proc p 0", 1)
	refuses(t, rows("proc p 0", "end", "stop"), 3)
	for _, line := range []string{"set r16 1", "set r0 -0", `set r0 "\x0A"`, `set r0 "a"b`, "set r0"} {
		refuses(t, rows("proc p 0", line, "end"), 2)
	}
	parsed(t, rows("proc p 1", "", "arg r0 1", "end"), api.Proc{}, 3, api.ErrOp)
	parsed(t, rows("proc 9p 0", "end"), api.Proc{}, 1, api.ErrName)
	refuses(t, rows("proc p 0", "set r0 9223372036854775808", "end"), 2)
}

// P7.1: a text that ends ahead of its end: its last line, at least 1.
func TestEndsEarly(t *testing.T) {
	for s, line := range map[string]int{
		"": 1, "\n": 1, " ": 1, "# x": 1, "# x\n": 1, "\t\n": 1, "\n\n": 2, "\n ": 2, "\n\n\n": 3, "\n\n\n#": 4, "#\n#\n#\n": 3,
		"proc p 0": 1, "proc p 0\n": 1, "proc p 0\n\n": 2, "proc p 0\n ": 2, "proc p 0\n#": 2, "proc p 0\n\n\n": 3,
		"\n\nproc p 0": 3, "proc p 0\nstop": 2, "proc p 0\nstop\n": 2, "proc p 0\nstop\n\n": 3,
		"proc p 0\nstop # end": 2, "proc p 0\n#end": 2, "proc 9 99": 1, "proc p 0\narg r0 5\n": 2,
	} {
		refuses(t, s, line)
	}
	for n := range 100 {
		refuses(t, strings.Repeat("\n", n), max(n, 1))
		refuses(t, "proc p 0"+strings.Repeat("\n", n), max(n, 1))
		refuses(t, "proc p 0\n"+strings.Repeat("stop\n", n), n+1)
	}
}

// P7.1: the last line with and without its byte 10, and what may stand behind it.
func TestLastLine(t *testing.T) {
	p := api.Proc{Name: "p"}
	for _, s := range []string{"", "\n", "\n\n", "\n\n\n\n", " ", "\t", "#", " # x", "\n#", "\n# end", "\n \t \n", "\n #\n\n#\n", "# stop\n"} {
		takes(t, "proc p 0\nend"+s, p)
		takes(t, "\n#\nproc p 0\n\nend"+s, p)
	}
	for s, line := range map[string]int{
		" stop": 2, " end": 2, " x": 2, " \"\"": 2, "\r": 2, "\r\n": 2, "\x00": 2, "s": 2, "\"\"": 2,
		"\nstop": 3, "\nend": 3, "\n\nend\n": 4, "\nproc p 0\nend\n": 3, "\n#\n\nx # y\n": 5, "\n\"": 3, "\n\r": 3, "\n\x00": 3,
		"\nend\nstop": 3, " x\nstop": 2, "\n\n\"a\"\n": 4, "\nset r0 \"\\": 3,
	} {
		refuses(t, "proc p 0\nend"+s, line)
	}
	for _, word := range []string{"End", "END", "en", "ends", "\"end\"", "end.", "#end"} {
		refuses(t, "proc p 0\n"+word+"\n", 2)
	}
}

// P7.1: blanks and tabs ahead, between and behind; no other byte is one.
func TestBlanks(t *testing.T) {
	p := of(api.Instr{Op: api.OpSkip, A: 1, B: 2, C: 3, N: api.CompareMost}, api.Instr{Op: api.OpSet, Value: text(" a ")})
	lines := [][]string{{"proc", "p", "16"}, {"skip", "1", "r2", "<=", "r3"}, {"set", "r0", `" a "`}, {"end"}}
	join := func(ahead, between, behind string) string {
		out := ""
		for _, words := range lines {
			out += ahead + strings.Join(words, between) + behind + "\n"
		}
		return out
	}
	gaps := []string{" ", "\t", "  ", "\t\t", " \t", "\t ", " \t \t ", strings.Repeat(" \t", 1000)}
	for _, between := range gaps {
		for _, other := range append(gaps, "") {
			takes(t, join(other, between, ""), p)
			takes(t, join("", between, other), p)
			takes(t, join(other, between, other), p)
		}
	}
	for _, no := range []string{"\r", "\v", "\f", "\x00", "\x1f", "\x08", "\x7f", "\xa0", "\x85", "\u00a0", "\u0085", "\u2003", "\u3000", "\u2028", "\ufeff", ",", ";"} {
		refuses(t, join("", no, ""), 1)
		refuses(t, join(no, " ", ""), 1)
		refuses(t, join("", " ", no), 1)
		refuses(t, within("stop"+no), 2)
		refuses(t, within(no+"stop"), 2)
		refuses(t, within(no), 2)
		refuses(t, within("get r1"+no+"r2"), 2)
		refuses(t, within("get r1 "+no+" r2"), 2)
		refuses(t, within("set r0 \"a\""+no), 2)
		takes(t, within("stop # "+no), of(stops(1)...))
	}
	refuses(t, within("setr0 1"), 2)
	refuses(t, within("set r01"), 2)
	refuses(t, within(`set r0"a"`), 2)
	refuses(t, "procp 0\nend\n", 1)
	refuses(t, "proc p0\nend\n", 1)
}

// P7.1: remarks wherever they may begin, of any bytes.
func TestRemarks(t *testing.T) {
	all := ""
	for c := range 256 {
		if c != '\n' {
			all += string([]byte{byte(c)})
		}
	}
	p := of(api.Instr{Op: api.OpSet, A: 1, Value: text("#a # b#")}, api.Instr{Op: api.OpTell, A: 1}, api.Instr{Op: api.OpSet, Value: num(-7)}, api.Instr{Op: api.OpSet, A: 2})
	for _, remark := range []string{"#", " #", "\t#", "##", "# #", "#\"", "# \"", "# a\" b", "#x", "# end", "#\\", "#\r", "#" + all, " # set r0 1", "#proc q 0"} {
		takes(t, rows(remark, "proc p 16"+remark, remark, `set r1 "#a # b#"`+remark, "tell r1"+remark, remark, "set r0 -7"+remark, "set r2 none"+remark, "end"+remark, remark), p)
	}
	// What is behind the sign does not count.
	refuses(t, within("set r1 # 5"), 2)
	refuses(t, within("set r1#5"), 2)
	refuses(t, within("set# r1 5"), 2)
	refuses(t, "proc p # 0\nend\n", 1)
	refuses(t, "proc p#0\nend\n", 1)
	refuses(t, "proc #p 0\nend\n", 1)
	refuses(t, "proc p 0\nend # x\nx\n", 3)
	// Within quotes it is none, whatever stands ahead of it there.
	for s, want := range map[string]string{
		`"#"`: "#", `"##"`: "##", `" # "`: " # ", `"\"#"`: `"#`, `"\\#"`: `\#`, `"\x22#"`: `"#`, `"a\"# b\""`: `a"# b"`, `"#"#"`: "#", `"#" #"`: "#", `"\\"#`: `\`, `"\\"#"`: `\`, `"\""#"`: `"`,
	} {
		takes(t, within("set r0 "+s), set(text(want)))
	}
	// A quote that does not begin a word begins no text.
	refuses(t, within(`set r0 a"#"`), 2)
	refuses(t, within(`set r0 1"#"`), 2)
	refuses(t, within(`set r0 "a#`), 2)
	refuses(t, within(`set r0 "a # b`), 2)
	refuses(t, within(`set r0 "a\"# b`), 2)
}

// right is a word that may stand as a field, and what it lays in an instruction that stands ahead of another one.
func right(letter rune) string {
	return map[rune]string{'A': "r1", 'B': "r2", 'C': "r3", 'n': "4", 'k': "1", 'm': "<", 'v': "-5"}[letter]
}

// line is the words of an instruction, all of them right.
func line(word string) []string {
	out := []string{word}
	for _, letter := range shapes[word].fields {
		out = append(out, right(letter))
	}
	return out
}

// P7.1: each instruction's word with each of its fields; a word too many or too few at each place.
func TestInstructions(t *testing.T) {
	want := map[string]api.Instr{
		"set":   {Op: api.OpSet, A: 1, Value: num(-5)},
		"arg":   {Op: api.OpArg, A: 1, N: 4},
		"get":   {Op: api.OpGet, A: 1, B: 2},
		"put":   {Op: api.OpPut, A: 1, B: 2},
		"del":   {Op: api.OpDel, A: 1},
		"add":   {Op: api.OpAdd, A: 1, B: 2, C: 3},
		"sub":   {Op: api.OpSub, A: 1, B: 2, C: 3},
		"mul":   {Op: api.OpMul, A: 1, B: 2, C: 3},
		"join":  {Op: api.OpJoin, A: 1, B: 2, C: 3},
		"need":  {Op: api.OpNeed, B: 2, C: 3, N: api.CompareLess},
		"skip":  {Op: api.OpSkip, A: 1, B: 2, C: 3, N: api.CompareLess},
		"sum":   {Op: api.OpSum, A: 1, B: 2, C: 3, N: 4},
		"count": {Op: api.OpCount, A: 1, B: 2, C: 3, N: 4},
		"next":  {Op: api.OpNext, A: 1, B: 2},
		"tell":  {Op: api.OpTell, A: 1},
		"stop":  {Op: api.OpStop},
	}
	if len(shapes) != 16 || len(want) != 16 {
		t.Fatal("there are 16 operations")
	}
	for word, in := range want {
		words := line(word)
		takes(t, within(strings.Join(words, " "), "stop"), of(in, api.Instr{Op: api.OpStop}))
		for i := range words {
			for _, more := range []string{"r1", "1", "<", "none", `""`, "x", "stop"} {
				refuses(t, within(strings.Join(slices.Insert(slices.Clone(words), i+1, more), " "), "stop"), 2)
			}
			less := slices.Delete(slices.Clone(words), i, i+1)
			if len(less) > 0 {
				refuses(t, within(strings.Join(less, " "), "stop"), 2)
			}
			if i > 0 {
				refuses(t, within(strings.Join(words[:i], " "), strings.Join(words[i:], " "), "stop"), 2)
			}
		}
		for _, no := range []string{strings.ToUpper(word), word + "x", word[1:], word[:len(word)-1], "\"" + word + "\"", "." + word, word + "\x00", strings.ToUpper(word[:1]) + word[1:]} {
			refuses(t, within(strings.Join(append([]string{no}, words[1:]...), " "), "stop"), 2)
		}
	}
	for _, no := range []string{"nop", "neg", "jump", "0", "r1", "none", "=", "proc", `""`, "set:", "1"} {
		refuses(t, within(no), 2)
	}
}

// kinds is words of every kind of field, right ones and such as are none.
func kinds() []string {
	return []string{"r0", "r1", "r9", "r10", "r15", "r16", "r17", "r20", "r99", "r00", "r01", "r015", "r", "R1", "rr1", "r-1", "r+1", "r1r", "r1.", "r 1", "r0x1", "r1_0", "r4294967296", "r18446744073709551616", "1r", "r\x00", "r\u0661", "ｒ1",
		"0", "00", "01", "000", "1", "2", "9", "10", "15", "16", "64", "65", "99999999", "100000000", "999999998", "999999999", "1000000000", "1000000001", "4294967296", "9999999999", "18446744073709551617", "0999999999", "+1", "-1", "+0", "-0", "-", "+", "1.0", "1e3", "0x1", "0b1", "1_000", "1,", "\u0661", "1\x00", "a", "1a",
		"none", "None", "NONE", "non", "nones", "nil", "null",
		"-01", "-00", "--1", "-+1", "9223372036854775807", "9223372036854775808", "-9223372036854775808", "-9223372036854775809", "09223372036854775807", "10000000000000000000", "99999999999999999999", "-99999999999999999999", "18446744073709551615", "18446744073709551616", "-18446744073709551615", "-18446744073709551616", strings.Repeat("9", 1000), "1" + strings.Repeat("0", 1000), "-" + strings.Repeat("1", 100),
		`""`, `"a"`, `"\""`, `"\\"`, `"\x00"`, `"`, `"a`, `a"`, `"a"b`, `""""`, `'a'`, `"\"`, `"\n"`,
		"=", "!=", "<", "<=", ">", ">=", "==", "=<", "=>", "<>", "!", "<<", "=!", "≤", "≠", "eq", "= =", "<=>"}
}

// P7.1: a word of each kind in the place of each field.
func TestFields(t *testing.T) {
	for word, shape := range shapes {
		for i := range shape.fields {
			for _, w := range kinds() {
				words := line(word)
				words[1+i] = w
				agrees(t, within(strings.Join(words, " "), "stop"))
				agrees(t, "#\n"+within("", strings.Join(words, "\t"), "stop # x", "stop"))
			}
		}
	}
}

// P7.1: registers.
func TestRegisters(t *testing.T) {
	for n := range 16 {
		takes(t, within("tell r"+strconv.Itoa(n)), of(api.Instr{Op: api.OpTell, A: n}))
		takes(t, within("add r1 r"+strconv.Itoa(n)+" r2"), of(api.Instr{Op: api.OpAdd, A: 1, B: n, C: 2}))
		takes(t, within("add r1 r2 r"+strconv.Itoa(n)), of(api.Instr{Op: api.OpAdd, A: 1, B: 2, C: n}))
		for _, no := range []string{"R%d", "%d", "r0%d", "r %d", "r-%d", "r+%d", "r%dr", "rr%d", "r%d0000000000", "x%d", "\"r%d\"", "r%d,"} {
			refuses(t, within("tell "+fmt.Sprintf(no, n)), 2)
		}
	}
	for n := 16; n < 300; n++ {
		refuses(t, within("tell r"+strconv.Itoa(n)), 2)
	}
	refuses(t, within("tell r"), 2)
	refuses(t, within("tell r r1"), 2)
}

// P7.1: numbers; what is one, but too great for its place, is Check's business.
func TestNumbers(t *testing.T) {
	for n := 0; n <= 16; n++ {
		takes(t, rows("proc p "+strconv.Itoa(n), "end"), api.Proc{Name: "p", Args: n})
	}
	for _, n := range []string{"17", "100", "999999999", "999999998", "123456789"} {
		parsed(t, rows("proc p "+n, "end"), api.Proc{}, 1, api.ErrArg)
		parsed(t, within("stop", "arg r0 "+n), api.Proc{}, 3, api.ErrOp)
		parsed(t, within("stop", "skip "+n+" r0 = r0"), api.Proc{}, 3, api.ErrOp)
	}
	for _, n := range []string{"00", "01", "001", "1000000000", "1000000001", "9999999999", "4294967295", "4294967312", "18446744073709551616", "-1", "-0", "+0", "+1", "-", "1.", ".1", "1e1", "0x1", "1_0", "x", "r1", "none", "\"1\"", "\"\"", "1a", "=", strings.Repeat("0", 20), strings.Repeat("1", 10000)} {
		refuses(t, rows("proc p "+n, "end"), 1)
		for _, line := range []string{"arg r0 " + n, "sum r0 r1 r2 " + n, "count r0 r1 r2 " + n, "skip " + n + " r1 = r2"} {
			refuses(t, within("stop", line, "stop"), 3)
		}
	}
	for n := 1; n <= 64; n++ {
		takes(t, within("sum r0 r1 r2 "+strconv.Itoa(n)), of(api.Instr{Op: api.OpSum, B: 1, C: 2, N: n}))
		takes(t, within("count r0 r1 r2 "+strconv.Itoa(n)), of(api.Instr{Op: api.OpCount, B: 1, C: 2, N: n}))
	}
}

// P7.1: values that are no texts.
func TestValues(t *testing.T) {
	takes(t, within("set r0 none"), set(nothing))
	for _, n := range []int64{0, 1, -1, 9, 10, -10, 63, 64, 1 << 31, -1 << 31, 1 << 32, 999999999, 1000000000, 1<<53 + 1, math.MaxInt64, math.MaxInt64 - 1, math.MinInt64, math.MinInt64 + 1} {
		takes(t, within("set r0 "+strconv.FormatInt(n, 10)), set(num(n)))
	}
	for _, w := range []string{"-0", "00", "01", "-01", "-00", "+0", "+1", "-", "--1", "-+1", "1-", "1.0", "1e3", "0x1", "1_0", "None", "nonee", "nil", "r1", "a", "=",
		"9223372036854775808", "-9223372036854775809", "9223372036854775810", "18446744073709551615", "18446744073709551616", "18446744073709551617", "-18446744073709551617", "10000000000000000000", strings.Repeat("9", 5000)} {
		refuses(t, within("set r0 "+w), 2)
	}
}

// P7.1: what stands within quotes, byte by byte.
func TestQuotedBytes(t *testing.T) {
	for c := range 256 {
		b := string([]byte{byte(c)})
		for _, around := range [][2]string{{"", ""}, {"a", ""}, {"", "b"}, {"a", "b"}, {" ", " "}, {`\\`, `\"`}, {`\x00`, `\xff`}, {"é", ""}, {"", "\xc3"}} {
			s := `"` + around[0] + b + around[1] + `"`
			plain := !strings.ContainsAny(around[0]+around[1], "é\xc3")
			agrees(t, within("set r0 "+s))
			if c < 32 || c > 126 || !plain {
				refuses(t, within("set r0 "+s), 2)
			} else if c != '"' && c != '\\' {
				ahead, _ := slowValue(`"` + around[0] + `"`)
				behind, _ := slowValue(`"` + around[1] + `"`)
				takes(t, within("set r0 "+s), set(text(ahead.Text+b+behind.Text)))
			}
		}
		hex := fmt.Sprintf(`\x%02x`, c)
		takes(t, within(`set r0 "`+hex+`"`), set(text(b)))
		takes(t, within(`set r0 "a`+hex+`b`+hex+hex+`"`), set(text("a"+b+"b"+b+b)))
		if great := strings.ToUpper(hex[2:]); great != hex[2:] {
			refuses(t, within(`set r0 "\x`+great+`"`), 2)
			refuses(t, within(`set r0 "\x`+great[:1]+hex[3:]+`\x`+hex[2:3]+great[1:]+`"`), 2)
		}
		// Behind the stroke: of all bytes a quote, a stroke and x alone.
		switch c {
		case '"':
			refuses(t, within(`set r0 "\"`), 2)
			takes(t, within(`set r0 "\""`), set(text(`"`)))
		case '\\':
			takes(t, within(`set r0 "\\"`), set(text(`\`)))
		default:
			refuses(t, within(`set r0 "\`+b+`"`), 2)
			refuses(t, within(`set r0 "a\`+b+`b"`), 2)
		}
		// As a digit behind \x.
		if !strings.Contains("0123456789abcdef", b) {
			refuses(t, within(`set r0 "\x`+b+`0"`), 2)
			refuses(t, within(`set r0 "\x0`+b+`"`), 2)
			refuses(t, within(`set r0 "\x`+b+b+`00"`), 2)
		}
		// Behind the closing quote.
		switch c {
		case ' ', '\t', '#':
			takes(t, within(`set r0 "a"`+b), set(text("a")))
		case '\n':
			refuses(t, within(`set r0 "a"`+b+"x"), 3)
		default:
			refuses(t, within(`set r0 "a"`+b), 2)
			refuses(t, within(`set r0 ""`+b), 2)
			refuses(t, within(`set r0 "a"`+b+` # x`), 2)
		}
	}
}

// P7.1: texts in quotes as a whole.
func TestQuoted(t *testing.T) {
	for s, want := range map[string]string{
		`""`: "", `" "`: " ", `"a b"`: "a b", `"\x09"`: "\t", `"a  b "`: "a  b ", `"\\\\"`: `\\`, `"\\\""`: `\"`, `"\\x41"`: `\x41`, `"\x5cx41"`: `\x41`, `"\x41"`: "A", `"\x0a"`: "\n", `"\xc3\xa9"`: "é",
		`"none"`: "none", `"1"`: "1", `"r0"`: "r0", `"set r0 1"`: "set r0 1", `"end"`: "end", `"'"`: "'", `"\x22"`: `"`, `"\x5c"`: `\`, `"\x5c\x22"`: `\"`, `"\x00\x00"`: "\x00\x00", `"~ !"`: "~ !",
	} {
		takes(t, within("set r0 "+s), set(text(want)))
		takes(t, within("stop", "set  r0\t"+s+"# x"), of(api.Instr{Op: api.OpStop}, api.Instr{Op: api.OpSet, Value: text(want)}))
	}
	for _, s := range []string{
		`"`, `"a`, `"a b`, `"\"`, `"\\\"`, `"\`, `"\x`, `"\x"`, `"\x0"`, `"\x0`, `"\x00`, `"\x 0"`, `"\x0 "`, `"\xg0"`, `"\x0g"`, `"\X00"`, `"\n"`, `"\t"`, `"\0"`, `"\'"`, `"\ "`, `"\`, `"\u0041"`, `"\101"`,
		`""""`, `"" ""`, `"a""b"`, `"a" "b"`, `""x`, `"a"1`, `x""`, `a"b"`, `'a'`, "`a`", `“a”`, `"é"`, "\"\xff\"", "\"\x7f\"", "\"\x00\"", "\"\r\"", "\"\t\"", "\"a\tb\"", `"a"\`, `"a"\x20`, `"a"r0`,
	} {
		refuses(t, within("set r0 "+s), 2)
		refuses(t, "\n"+within("", "set r0 "+s+" # y"), 4)
	}
	// A text does not go on behind its line's end.
	refuses(t, within(`set r0 "a`, `b"`), 2)
	refuses(t, within(`set r0 "a\`, `b"`), 2)
	refuses(t, within(`set r0 "a\x`, `00"`), 2)
	refuses(t, within(`set r0 "\x0`, `0"`), 2)
	// A text in quotes may stand for a VALUE alone.
	for _, line := range []string{`"set" r0 1`, `set "r0" 1`, `get r0 "r1"`, `arg r0 "0"`, `need r0 "=" r1`, `"stop"`, `skip "1" r0 = r1`, `sum r0 r1 r2 "1"`, `stop ""`, `"" stop`} {
		refuses(t, within(line, "stop"), 2)
	}
	refuses(t, `proc "p"0`+"\nend\n", 1)
	refuses(t, `proc"p" 0`+"\nend\n", 1)
	refuses(t, `"proc" p 0`+"\nend\n", 1)
	refuses(t, `proc p "0"`+"\nend\n", 1)
	refuses(t, "proc p 0\n\"end\"\n", 2)
	refuses(t, "proc p 0\nend \"\"\n", 2)
}

// P7.1: texts of each length; one that is too long is Check's business.
func TestQuotedLength(t *testing.T) {
	for _, n := range []int{1, 2, 63, 64, 65, 127, 128, 255, 256} {
		takes(t, within(`set r0 "`+long(n)+`"`), set(text(long(n))))
		takes(t, within(`set r0 "`+strings.Repeat(`\x00`, n)+`"`), set(text(strings.Repeat("\x00", n))))
		takes(t, within(`set r0 "`+strings.Repeat(`\"`, n)+`"`), set(text(strings.Repeat(`"`, n))))
	}
	for _, n := range []int{257, 258, 512, 70000} {
		parsed(t, within("", `set r0 "`+long(n)+`"`), api.Proc{}, 3, api.ErrLong)
		parsed(t, within("", `set r0 "`+strings.Repeat(`\x6e`, n)+`"`), api.Proc{}, 3, api.ErrLong)
		refuses(t, within("", `set r0 "`+long(n)), 3)
		refuses(t, within("", `set r0 "`+long(n)+"é\""), 3)
	}
}

// P7.1: each comparison, and what is none.
func TestComparisons(t *testing.T) {
	for word, n := range map[string]int{"=": api.CompareEqual, "!=": api.CompareUnlike, "<": api.CompareLess, "<=": api.CompareMost, ">": api.CompareGreater, ">=": api.CompareLeast} {
		takes(t, within("need r1 "+word+" r2"), of(api.Instr{Op: api.OpNeed, B: 1, C: 2, N: n}))
		takes(t, within("skip 1 r1 "+word+" r2", "stop"), of(api.Instr{Op: api.OpSkip, A: 1, B: 1, C: 2, N: n}, api.Instr{Op: api.OpStop}))
		refuses(t, within("need r1"+word+"r2"), 2)
		refuses(t, within("need r1"+word+" r2"), 2)
		refuses(t, within("need "+word+" r1 r2"), 2)
		refuses(t, within("need r1 r2 "+word), 2)
		refuses(t, within("skip 1 r1"+word+" r2", "stop"), 2)
	}
	for _, no := range []string{"==", "=>", "=<", "<>", "!", "=!", "<<", ">>", "===", "~", "1", "4", "r1", "eq", "≤", "\"=\"", "=\x00", "none", "< =", "! ="} {
		refuses(t, within("need r1 "+no+" r2"), 2)
		refuses(t, within("skip 1 r1 "+no+" r2", "stop"), 2)
	}
}

// P7.1: the line of the name.
func TestHead(t *testing.T) {
	for _, head := range []string{"proc", "proc p", "proc 0", "proc p 0 0", "proc p 0 x", "proc p q 0", "p 0", "p", "0", "stop", "end", "set r0 1", "Proc p 0", "PROC p 0", "proc: p 0", "procs p 0", "proc p 0 end", "proc p -1", "proc p x", "proc p p", "proc p none", "proc p r0", "proc 0 p", "p proc 0", `proc p ""`, `proc "p 0`, `proc p 0"`, "proc p 0\r", "proc p\r 0\r", "proc p,0", "proc p()"} {
		for n := range 3 {
			s := strings.Repeat("# \n", n) + head + "\n"
			refuses(t, s+"end\n", n+1)
			refuses(t, s+"stop\nend\n", n+1)
			refuses(t, s+"x\n", n+1)
			refuses(t, s+"proc p 0\nend\n", n+1)
		}
	}
	refuses(t, rows("proc p 0", "proc p 0", "end"), 2)
	refuses(t, rows("proc p 0", "stop", "", "proc q 1", "end"), 4)
	refuses(t, rows("proc p 0", "proc", "end"), 2)
	refuses(t, rows("proc p 0", "end", "proc p 0", "end"), 3)
	refuses(t, rows("", "end"), 2)
	// Any plain word is a name, till Check says otherwise; it may be the word of something else.
	for _, name := range []string{"p", "P", "proc", "end", "set", "r0", "none", "a.b-c_9", "stop", long(32)} {
		takes(t, rows("proc "+name+" 3", "end"), api.Proc{Name: name, Args: 3})
	}
	for _, name := range []string{"9p", "9", "-", "_p", ".p", "p!", "pé", "\xff", "p\x00", "p\r", "=", long(33), long(100000), `p"`, `p"q"`, "p'"} {
		parsed(t, rows("proc "+name+" 3", "end"), api.Proc{}, 1, api.ErrName)
		parsed(t, rows("", "# x", "  proc\t"+name+" 99 # y", "", "stop", "end"), api.Proc{}, 3, api.ErrName)
	}
	// A text in quotes is a VALUE, and may not stand for a name, whatever it says.
	for _, name := range []string{`"p"`, `""`, `"p q"`, `"p#q"`, `"9p"`, `"put2"`, `"\x70"`, `"\""`, `"` + long(33) + `"`} {
		refuses(t, rows("proc "+name+" 3", "end"), 1)
		refuses(t, "proc "+name+" 0\nend", 1)
		refuses(t, rows("proc "+name+" 999999999", "set", "end"), 1)
		refuses(t, rows("", "# x", "  proc\t"+name+" 99 # y", "", "set", "end"), 3)
	}
}

// P7.1: of several lines that are not as they should be the first; what Check says comes behind all of them.
func TestFirstLine(t *testing.T) {
	bad := []string{"x", "set r0", "set r16 1", `set r0 "`, "stop 1", "proc p 0", "need r0 == r0", "end x", "\r", `"`}
	for i := range 12 {
		for j := i; j < 12; j++ {
			for k, no := range bad {
				lines := slices.Repeat([]string{"stop"}, 12)
				lines[j] = bad[(i+j+k)%len(bad)]
				lines[i] = no
				refuses(t, within(lines...), i+2)
				refuses(t, "proc 9 99\n"+strings.Join(lines, "\n")+"\nend\n", i+2)
			}
		}
	}
	for _, s := range []string{"proc 9p 0\n", "proc p 99\n", "proc p 0\narg r0 0\n", "proc p 0\nset r0 \"" + long(257) + "\"\n", "proc p 0\n" + strings.Repeat("stop\n", 70)} {
		n := strings.Count(s, "\n")
		refuses(t, s+"\nx\nend\n", n+2)
		refuses(t, s+"end\n\nx\n", n+3)
		refuses(t, s+"end x\n", n+1)
		refuses(t, s, n)
	}
}

// P7.1: each error of Check with its line, remarks and empty lines ahead of it.
func TestCheckLine(t *testing.T) {
	texts := map[api.Errno][]string{
		api.ErrOp:   {"arg r0 2", "arg r1 999999999", "skip 0 r0 = r0", "skip 3 r0 = r0", "skip 999999999 r0 = r0", "sum r0 r0 r0 0", "sum r0 r0 r0 65", "count r0 r0 r0 0", "count r0 r0 r0 999999999"},
		api.ErrLong: {`set r0 "` + long(257) + `"`, `set r0 "` + strings.Repeat(`\\`, 300) + `"`},
	}
	for e, all := range texts {
		for _, line := range all {
			for n := range 4 {
				ahead := strings.Repeat("# x\n\n", n)
				parsed(t, ahead+rows("proc p 2", line, "stop", "stop", "end"), api.Proc{}, 2*n+2, e)
				parsed(t, rows("proc p 2", "stop", ahead+line, "stop", "stop", "end"), api.Proc{}, 2*n+3, e)
				parsed(t, rows("proc p 2", ahead+"arg r0 1", "#", ahead+line, "stop", "stop", ahead, "end"), api.Proc{}, 4*n+4, e)
				parsed(t, ahead+rows("proc p 17", "", line, "end"), api.Proc{}, 2*n+1, api.ErrArg)
				parsed(t, ahead+rows("proc p.! 17", "", line, "end"), api.Proc{}, 2*n+1, api.ErrName)
				// Of two the first one.
				parsed(t, rows("proc p 2", "stop", ahead+line, "arg r0 5", "skip 0 r0 = r0", "end"), api.Proc{}, 2*n+3, e)
				parsed(t, rows("proc p 2", ahead+"arg r0 5", "stop", line, "stop", "stop", "end"), api.Proc{}, 2*n+2, api.ErrOp)
			}
		}
	}
	// How far a skip goes hangs on the lines behind it that say something.
	takes(t, within("skip 1 r0 = r0", "#", "", "stop"), of(api.Instr{Op: api.OpSkip, A: 1, N: 1}, api.Instr{Op: api.OpStop}))
	parsed(t, within("#", "skip 1 r0 = r0", "#", ""), api.Proc{}, 3, api.ErrOp)
}

// P7.1: as many instructions as there may be, and more.
func TestHowMany(t *testing.T) {
	for _, n := range []int{0, 1, 63, 64} {
		takes(t, within(slices.Repeat([]string{"stop"}, n)...), of(stops(n)...))
		takes(t, within(slices.Repeat([]string{"stop", "", "# stop"}, n)...), of(stops(n)...))
	}
	for _, n := range []int{65, 66, 100, 128, 5000} {
		lines := slices.Repeat([]string{"stop"}, n)
		parsed(t, "\n"+within(lines...), api.Proc{}, 2, api.ErrLong)
		parsed(t, strings.Replace(within(lines...), "16", "17", 1), api.Proc{}, 1, api.ErrArg)
		parsed(t, strings.Replace(within(lines...), " p ", " 9 ", 1), api.Proc{}, 1, api.ErrName)
		lines[n-1] = "skip 5 r0 = r0" // Check has refused it ahead of that
		lines[3] = "arg r0 77"
		parsed(t, within(lines...), api.Proc{}, 1, api.ErrLong)
		lines[n-1] = "skip"
		refuses(t, within(lines...), n+1)
		refuses(t, strings.TrimSuffix(within(slices.Repeat([]string{"stop"}, n)...), "end\n"), n+1)
	}
}
