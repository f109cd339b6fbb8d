package script_test

import (
	"math"
	"math/rand"
	"strings"
	"testing"

	"treadle/api"
	"treadle/script"
)

// P19.1: the chapter's own.
func TestParseKnown(t *testing.T) {
	takes(t, "")
	takes(t, "# x")
	takes(t, rows("open 100 2 1", "submit", `call p "a" 1 none`, "done", "flush"),
		open(100, 2, 1), submit(call("p", text("a"), num(1), api.Value{})), plain(api.StepFlush))
	takes(t, rows("submit", "proc p 0", "stop", "end", "done"), submit(define(api.Proc{Name: "p", Code: []api.Instr{{Op: api.OpStop}}})))
	takes(t, rows("plan stroke 3 off reading 1 io", "crash 1 file 2 0 5 file 0"),
		plan([]api.Fault{{At: 3, Kind: api.FaultOff}}, []api.Fault{{At: 1, Kind: api.FaultIO}}),
		crash(1, api.Pick{Done: 2, Lost: []int{0, 5}}, api.Pick{}))
	takes(t, rows(`hand "x" "\x00"`, `range "a" "" -1`), hand("x", "\x00"), span("a", "", -1))
	takes(t, rows("submit", "done"), submit())
	refuses(t, rows("submit", "call 9p"), 2)
	refuses(t, rows("submit", "call p"), 2)
	for _, s := range []string{"flush 1", "read a", "plan stroke 1"} {
		refuses(t, s, 1)
	}
	parsed(t, rows("submit", "proc p 0", "arg r0 0", "end", "done"), nil, 3, api.ErrOp)
}

// lined is the words of each step that is one line, and the step.
func lined() map[string]api.Step {
	out := map[string]api.Step{
		"open 1 2 3": open(1, 2, 3), "open -9223372036854775808 0 9223372036854775807": open(math.MinInt, 0, math.MaxInt),
		`read "a"`: read("a"), `read ""`: read(""), `read "a b # \" \\ \x00\xff"`: read("a b # \" \\ \x00\xff"),
		`range "a" "b" 3`: span("a", "b", 3), `range "" "" -1`: span("", "", -1),
		"step 7": step(7), "step 0": step(0), "step -1": step(-1),
		"plan": plan(nil, nil), "plan stroke 1 off": plan([]api.Fault{{At: 1, Kind: api.FaultOff}}, nil), "plan reading -2 io": plan(nil, []api.Fault{{At: -2, Kind: api.FaultIO}}),
		"plan reading 1 off stroke 2 io reading 3 full stroke 1 full": plan([]api.Fault{{At: 2, Kind: api.FaultIO}, {At: 1, Kind: api.FaultFull}}, []api.Fault{{At: 1, Kind: api.FaultOff}, {At: 3, Kind: api.FaultFull}}),
		"crash 0": crash(0), "crash -3": crash(-3), "crash 1 file 2": crash(1, api.Pick{Done: 2}), "crash 1 file 2 3": crash(1, api.Pick{Done: 2, Lost: []int{3}}),
		"crash 1 file 2 3 4 -5 file 6 file 7 8": crash(1, api.Pick{Done: 2, Lost: []int{3, 4, -5}}, api.Pick{Done: 6}, api.Pick{Done: 7, Lost: []int{8}}),
		`hand "x" "y"`:                          hand("x", "y"), `hand "" ""`: hand("", ""), `hand "a b" "\x00\x0a#"`: hand("a b", "\x00\n#"),
	}
	for word, kind := range bare {
		out[word] = plain(kind)
	}
	return out
}

// apart is the words of a line that chapter 7 takes.
func apart(t testing.TB, line string) []string {
	words, ok := slowWords(line)
	if !ok {
		t.Fatalf("%q has no words", line)
	}
	return words
}

// P19.1: each step's words, with blanks, tabs, remarks and lines that say nothing between them, the last line with its byte 10 and without.
func TestEachStep(t *testing.T) {
	for line, want := range lined() {
		words := apart(t, line)
		for _, s := range []string{line, line + "\n", line + "\n\n\n", "\n\n" + line, "# x\n \t \n" + line + "\n#", line + " ", line + "\t\n", "  \t" + line, line + "#", line + " # x", line + "#flush\n", strings.Join(words, "  "), "\t" + strings.Join(words, " \t ") + "\t# \"\n#"} {
			takes(t, s, want)
			takes(t, "flush#\n"+s, plain(api.StepFlush), want)
		}
		takes(t, line+"\n"+line+"\n \n"+line, want, want, want)
		takes(t, "submit\ndone\n"+line+"\nsubmit\n\ndone", submit(), want, submit())
		for _, no := range []string{"\r", "\x00", "\v", "\u00a0"} {
			refuses(t, "\n"+line+no, 2)
			refuses(t, line+"\n"+no, 2)
		}
		refuses(t, line+"\n"+line+" x", 2)
		refuses(t, "submit\n"+line+"\ndone", 2)
		refuses(t, "submit\nproc p 0\n"+line+"\nend\ndone", 3)
	}
	takes(t, "\n#\n \n\t")
	takes(t, "\n")
}

// P19.1: too few words, too many, and words that may not stand there, at each place of each step.
func TestWordsOfSteps(t *testing.T) {
	wrong := []string{"x", "1", "-1", "none", `"a"`, `""`, "stroke", "reading", "file", "off", "done", "call", "flush", "r0", "01", "-0", "1.5", "+1", "0x1", "9223372036854775808", `"`, `"a"b`, `a"b"`, `"\n"`, "\r", "\x00", "é", "#"}
	for line := range lined() {
		words := apart(t, line)
		for i := range words {
			agrees(t, strings.Join(words[:i], " "))
			agrees(t, strings.Join(append(append([]string{}, words[:i]...), words[i+1:]...), " "))
			agrees(t, strings.Join(append(append([]string{}, words[:i+1]...), words[i:]...), " "))
			for _, w := range wrong {
				agrees(t, strings.Join(append(append(append([]string{}, words[:i]...), w), words[i+1:]...), " "))
				agrees(t, strings.Join(append(append(append([]string{}, words[:i]...), w), words[i:]...), " "))
			}
		}
		for _, w := range wrong {
			agrees(t, line+" "+w)
		}
		for _, w := range []string{strings.ToUpper(words[0]), strings.ToUpper(words[0][:1]) + words[0][1:], words[0] + "s", words[0][1:], `"` + words[0] + `"`, words[0] + ":", words[0] + `"`, "-" + words[0]} {
			refuses(t, strings.Join(append([]string{w}, words[1:]...), " "), 1)
		}
	}
	for _, s := range []string{"open", "open 1", "open 1 2", "open 1 2 3 4", "read", `read "a" "b"`, "range", `range "a"`, `range "a" "b"`, `range "a" 1`, `range "a" "b" 1 2`, `range 1 "a" "b"`, "step", "step 1 2",
		"plan 1", "plan stroke", "plan stroke 1", "plan stroke off", "plan off", "plan stroke 1 off off", "plan stroke 1 off 2 io", "plan 1 off", "plan stroke off 1", "plan stroke 1 off reading", "plan stroke 1 off reading 2", "plan strokes 1 off", "plan stroke 1 on", "plan stroke 1 1", "plan stroke 1 OFF", "plan stroke 1 \"off\"", "plan \"stroke\" 1 off", "plan stroke \"1\" off",
		"crash", "crash file 1", "crash 0 file", "crash 0 1", "crash 0 file 1 file", "crash 0 file file 1", "crash 0 file 1 x", "crash 0 files 1", "crash 0 \"file\" 1", "crash none", "crash 0 file none",
		"hand", `hand "a"`, `hand "a" "b" "c"`, `hand a "b"`, `hand "a" b`, `hand "a" 1`, `hand "a" none`, `hand"a" "b"`, "read none", "read 1", "read a", "step none", `step "1"`, "step a", "flush 1", "flush flush", "submit 1", "submit done", "submit call p", "submit submit",
		"done", "call p", "end", "proc p 0", "stop", "none", "1", `"flush"`, `""`, `"`, "\\", "Flush", "flushh", "flush;", "flush\r", "set r0 1"} {
		for n := range 3 {
			refuses(t, strings.Repeat("#\n", n)+s, n+1)
			refuses(t, strings.Repeat("flush\n", n)+s+"\nflush\n", n+1)
		}
	}
}

// P19.1: INTs at both ends, beyond them, and in other forms than their one.
func TestInts(t *testing.T) {
	shapes := map[string]func(n int) api.Step{
		"open I 1 2":       func(n int) api.Step { return open(n, 1, 2) },
		"open 1 I 2":       func(n int) api.Step { return open(1, n, 2) },
		"open 1 2 I":       func(n int) api.Step { return open(1, 2, n) },
		`range "a" "b" I`:  func(n int) api.Step { return span("a", "b", n) },
		"step I":           step,
		"plan stroke I io": func(n int) api.Step { return plan([]api.Fault{{At: n, Kind: api.FaultIO}}, nil) },
		"plan stroke 1 io reading I io": func(n int) api.Step {
			return plan([]api.Fault{{At: 1, Kind: api.FaultIO}}, []api.Fault{{At: n, Kind: api.FaultIO}})
		},
		"crash I":          func(n int) api.Step { return crash(n) },
		"crash 0 file I":   func(n int) api.Step { return crash(0, api.Pick{Done: n}) },
		"crash 0 file 1 I": func(n int) api.Step { return crash(0, api.Pick{Done: 1, Lost: []int{n}}) },
		"crash 0 file 1 2 I file 3": func(n int) api.Step {
			return crash(0, api.Pick{Done: 1, Lost: []int{2, n}}, api.Pick{Done: 3})
		},
		"submit\ncall p I\ndone": func(n int) api.Step { return submit(call("p", num(int64(n)))) },
	}
	good := map[string]int{"0": 0, "1": 1, "-1": -1, "10": 10, "-10": -10, "100": 100, "9223372036854775807": math.MaxInt, "-9223372036854775808": math.MinInt, "9223372036854775806": math.MaxInt - 1, "-9223372036854775807": math.MinInt + 1, "4294967296": 1 << 32}
	bad := []string{"9223372036854775808", "-9223372036854775809", "18446744073709551616", "99999999999999999999999999999999", "-0", "00", "01", "-01", "007", "+1", "+0", "--1", "-", "1-", "1.0", "1e1", "0x1", "1_0", "1,0", "a", "r1", `"1"`, `""`, "١", "1\x00", "1\r", "off"}
	for shape, of := range shapes {
		line := strings.Count(shape[:strings.LastIndex(shape, "I")], "\n") + 1
		for s, n := range good {
			takes(t, strings.Replace(shape, "I", s, 1), of(n))
		}
		for _, s := range bad {
			if line == 2 && strings.HasPrefix(s, `"`) {
				continue // of a call it is a VALUE
			}
			refuses(t, strings.Replace(shape, "I", s, 1), line)
			refuses(t, "\n"+strings.Replace(shape, "I", s, 1)+"\nx", line+1)
		}
	}
}

// P19.1: a TEXT and a VALUE of each kind, one where the other is asked for, and a text of each length.
func TestTexts(t *testing.T) {
	for q, s := range map[string]string{`""`: "", `" "`: " ", `"a"`: "a", `"#"`: "#", `"a # b"`: "a # b", `"\""`: `"`, `"\\"`: `\`, `"\x00"`: "\x00", `"\x0a"`: "\n", `"\xff\x7f"`: "\xff\x7f", `"none"`: "none", `"1"`: "1", `"\x41"`: "A", `"\\x41"`: `\x41`, `"done"`: "done", `"~!"`: "~!"} {
		takes(t, "read "+q, read(s))
		takes(t, "read "+q+"#", read(s))
		takes(t, "range "+q+" \"b\" 1", span(s, "b", 1))
		takes(t, "range \"b\"\t"+q+" 1", span("b", s, 1))
		takes(t, "hand "+q+" \"b\"", hand(s, "b"))
		takes(t, "hand \"b\" "+q, hand("b", s))
		takes(t, "submit\ncall p "+q+" "+q+"\ndone", submit(call("p", text(s), text(s))))
		for _, line := range []string{"step Q", "open 1 Q 2", "crash Q", "plan stroke Q off", "range \"a\" \"b\" Q", "Q", "flush Q", "plan stroke 1 Q", "crash 0 Q", "crash 0 file 1 Q", "submit Q", "submit\ndone Q", "submit\ncall Q\ndone", "submit\nQ\ndone", "submit\nproc Q 0\nend\ndone", "submit\nproc p 0\nend Q\ndone"} {
			at := strings.Count(line[:strings.Index(line, "Q")], "\n") + 1
			refuses(t, strings.Replace(line, "Q", q, 1), at)
		}
	}
	for _, q := range []string{`"`, `"a`, `"\"`, `"\`, `"\x`, `"\x0"`, `"\x0A"`, `"\xg0"`, `"\n"`, `"\ "`, `"a"b`, `"a""b"`, `a"b"`, `""""`, `'a'`, `“a”`, `"é"`, "\"\x7f\"", "\"\x00\"", "\"\t\"", "\"\r\"", "a", "none", "1", "#"} {
		for _, line := range []string{"read Q", "hand Q \"a\"", "hand \"a\" Q", "range Q \"a\" 1", "range \"a\" Q 1"} {
			refuses(t, "flush\n"+strings.Replace(line, "Q", q, 1)+"\nread", 2)
		}
	}
	// A text does not go on behind its line's end.
	refuses(t, "hand \"a\" \"b\nc\"", 1)
	refuses(t, "submit\ncall p \"a\n\"\ndone", 2)
	for w, v := range map[string]api.Value{"none": {}, "0": num(0), "-7": num(-7), `"none"`: text("none"), `"7"`: text("7"), `""`: text("")} {
		takes(t, "submit\ncall p "+w+"\ncall q 1 "+w+" # x\ndone", submit(call("p", v), call("q", num(1), v)))
	}
	for _, w := range []string{"None", "nothing", "a", "p", "r0", "=", "-", "01", "-0", "+1", "'a'", `"a"b`, `"`, "9223372036854775808", "call", "done", "\r", "none\r"} {
		refuses(t, "submit\ncall p "+w+"\ndone", 2)
		refuses(t, "submit\ncall p 1 "+w+" \"a\"\ndone", 2)
	}
}

// P19.1: a VALUE above MaxText bytes is none; a TEXT may have any length.
func TestLength(t *testing.T) {
	for _, n := range []int{1, 64, 65, 255, 256, 257, 258, 1000, 70000} {
		for q, s := range map[string]string{long(n): long(n), strings.Repeat(`\x00`, n): strings.Repeat("\x00", n), strings.Repeat(`\"`, n): strings.Repeat(`"`, n)} {
			if n <= 256 {
				takes(t, "submit\ncall p 1 \""+q+"\"\ndone", submit(call("p", num(1), text(s))))
			} else {
				refuses(t, "submit\ncall p 1 \""+q+"\"\ndone", 2)
				refuses(t, "submit\ncall p\ncall p \""+q+"\" x\ndone x", 3)
				parsed(t, "submit\nproc p 0\nset r0 \""+q+"\"\nend\ndone", nil, 3, api.ErrLong)
			}
			takes(t, "read \""+q+"\"", read(s))
			takes(t, "range \""+q+"\" \""+q+"\" 1", span(s, s, 1))
			takes(t, "hand \""+q+"\" \""+q+"\"", hand(s, s))
		}
	}
	// As many of anything as one likes.
	for _, n := range []int{17, 65, 1000} {
		many, lost := call("p"), api.Pick{Done: 1}
		s, faults, files := submit(), plan(nil, nil), crash(0)
		for i := range n {
			many.Args = append(many.Args, num(int64(i%10)))
			s.Txns = append(s.Txns, call("p"))
			faults.Plan.Strokes = append(faults.Plan.Strokes, api.Fault{At: 1, Kind: api.FaultIO})
			lost.Lost = append(lost.Lost, 5)
			files.Picks.Files = append(files.Picks.Files, api.Pick{Done: 3})
		}
		takes(t, "submit\ncall p"+strings.Repeat(" 0 1 2 3 4 5 6 7 8 9", n)[:2*n]+"\ndone", submit(many))
		takes(t, "submit\n"+strings.Repeat("call p\n", n)+"done", s)
		takes(t, "plan"+strings.Repeat(" stroke 1 io", n), faults)
		takes(t, "crash 2 file 1"+strings.Repeat(" 5", n), crash(2, lost))
		takes(t, "crash 0"+strings.Repeat(" file 3", n), files)
	}
}

// P19.1: names behind `call`.
func TestNames(t *testing.T) {
	for _, name := range []string{"p", "P", "put2", "a.b-c_9", "call", "done", "proc", "end", "none", "submit", "r0", "z" + long(31)} {
		takes(t, "submit\ncall "+name+"\ncall\t"+name+" 1#\ndone", submit(call(name), call(name, num(1))))
	}
	for _, name := range []string{"9p", "9", "-p", "_p", ".p", "p!", "p/q", "pé", "é", "\xff", "p\x00", "p\r", "=", "*", `"p"`, `""`, `p"`, `p"q"`, "'p'", long(33), long(10000), "-1", "1"} {
		refuses(t, "submit\ncall "+name+"\ndone", 2)
		refuses(t, "submit\n\ncall "+name+" 1 none\ncall\ndone", 3)
	}
	refuses(t, "submit\ncall\ndone", 2)
	refuses(t, "submit\ncall # p\ndone", 2)
	refuses(t, "submit\ncallp\ndone", 2)
}

// P19.1: lines that may not stand within a submit, and those that may stand there alone.
func TestWithinSubmit(t *testing.T) {
	for line := range lined() {
		refuses(t, "submit\n"+line, 2)
		refuses(t, "submit\ncall p\n"+line+"\ndone", 3)
		refuses(t, "submit\nproc p 0\nend\n"+line+"\ndone", 4)
	}
	for _, line := range []string{"submit", "submit # x", "end", "stop", "set r0 1", "done 1", "done done", "Done", "done;", `"done"`, "x", "1", "procs p 0", "Proc p 0", `"proc" p 0`, `"call" p`, "Call p", "calls p"} {
		refuses(t, "submit\n"+line+"\ndone", 2)
		refuses(t, "flush\nsubmit\n\ncall p\n"+line+"\ndone", 5)
	}
	for _, s := range []string{"submit\n\n#\n done # x\n", "submit#\n\tdone", "\n submit \n\n\ndone#"} {
		takes(t, s, submit())
	}
	refuses(t, "submit\ndone\ndone", 3)
	refuses(t, "submit\ndone\ncall p", 3)
	refuses(t, "submit\ndone\nproc p 0\nend", 3)
}

// P19.1: the text ends within a submit, within a procedure, right behind `submit`.
func TestEndsEarly(t *testing.T) {
	for s, line := range map[string]int{
		"submit": 1, "submit\n": 1, "submit\n\n": 2, "submit\n \n": 2, "submit\n\n\n": 3, "submit # done": 1, "submit\n#": 2, "submit\n# done\n": 2, "\n\nsubmit": 3, "flush\nsubmit\n\n \n\t": 5,
		"submit\ncall p": 2, "submit\ncall p\n": 2, "submit\ncall p\n\n\n": 4, "submit\ncall p\n#": 3, "submit\ndone\nsubmit": 3,
		"submit\nproc p 0": 2, "submit\nproc p 0\n": 2, "submit\nproc p 0\n\n": 3, "submit\nproc p 0\n#\n ": 4, "submit\nproc p 0\nstop": 3, "submit\nproc p 0\nstop\n\n": 4, "submit\nproc p 0\nend": 3, "submit\nproc p 0\nend\n": 3, "submit\nproc p 0\nend\n\n": 4,
		"\n\nsubmit\n\nproc p 0\n\nstop # end\n\n": 8, "submit\nproc 9 99": 2, "submit\nproc 9 99\n": 2, "submit\nproc p 0\narg r0 5\n\n": 4, "submit\nproc p 0\nset r0 \"" + "\x61" + "\"\n#end": 4,
		"submit\ncall p\nproc p 0\nend\ncall q\n": 5,
	} {
		refuses(t, s, line)
	}
	for n := range 50 {
		refuses(t, strings.Repeat("flush\n", n)+"submit"+strings.Repeat("\n", n), max(2*n, n+1))
		refuses(t, "submit\n"+strings.Repeat("call p\n", n), n+1)
		refuses(t, "submit\nproc p 0\n"+strings.Repeat("stop\n", n), n+2)
	}
}

// refused is procedures that chapter 7 refuses in each of its ways but ErrText: the error, and the line within.
func refused() []struct {
	text string
	line int
	err  api.Errno
} {
	return []struct {
		text string
		line int
		err  api.Errno
	}{
		{"proc 9p 0\nend", 1, api.ErrName}, {"proc 9p 0\n\nstop\narg r0 0\nend", 1, api.ErrName}, {"proc " + long(33) + " 99\nend", 1, api.ErrName}, {"proc p! 0 # x\nend", 1, api.ErrName},
		{"proc p 17\nend", 1, api.ErrArg}, {"proc p 999999999\n#\nend", 1, api.ErrArg},
		{"proc p 0\n" + strings.Repeat("stop\n", 65) + "end", 1, api.ErrLong},
		{"proc p 0\narg r0 0\nend", 2, api.ErrOp}, {"proc p 1\n\n# x\narg r0 0\narg r0 1\nend", 5, api.ErrOp}, {"proc p 0\nskip 1 r0 = r0\nend", 2, api.ErrOp}, {"proc p 0\nskip 0 r0 = r0\nstop\nend", 2, api.ErrOp},
		{"proc p 0\nsum r0 r0 r0 65\nend", 2, api.ErrOp}, {"proc p 0\nstop\ncount r0 r0 r0 0\n\nend # x", 3, api.ErrOp},
		{"proc p 0\nset r0 \"" + long(257) + "\"\nend", 2, api.ErrLong}, {"proc p 0\nstop\nset r0 \"" + long(257) + "\"\narg r0 0\nend", 3, api.ErrLong},
	}
}

// P19.1: a procedure that chapter 7 refuses, as the first and as a later thing of the text: the error, and the line counted in the whole text; what stands behind is not looked at.
func TestProcRefused(t *testing.T) {
	for _, x := range refused() {
		for _, ahead := range []string{"submit\n", "\n\n#\n submit # x\n\n", "flush\nsubmit\ndone\nread \"a\"\nsubmit\n", "submit\ncall p 1\n", "submit\nproc p 0\nstop\nend\n", "submit\nproc p 0\n\n\nend\ncall q\n\n"} {
			for _, behind := range []string{"\ndone", "\ndone\n", "", "\n", "\n\n\n", "\nx", "\ncall 9p\ndone", "\nproc p\ndone", "\ndone\nflush 1", "\ndone x", "\n\"", "\nproc q 0\narg r0 0\nend\ndone", "\nend"} {
				parsed(t, ahead+x.text+behind, nil, strings.Count(ahead, "\n")+x.line, x.err)
			}
		}
		// Outside of a submit it is no line of the text at all.
		refuses(t, x.text, 1)
		refuses(t, "flush\n\n"+x.text+"\n", 3)
		// A line that is not as it should be comes first: ahead of it, or within it, ahead of its end or at it.
		refuses(t, "x\nsubmit\n"+x.text+"\ndone", 1)
		refuses(t, "submit\ncall 9\n"+x.text+"\ndone", 2)
		lines := strings.Split(x.text, "\n")
		for i := 1; i < len(lines); i++ {
			bad := append(append(append([]string{}, lines[:i]...), "x"), lines[i:]...)
			refuses(t, "submit\n"+rows(bad...)+"done", i+2)
		}
		refuses(t, "submit\n"+strings.Replace(x.text, "\nend", "\nend x", 1)+"\ndone", 1+len(lines))
		refuses(t, "submit\n"+strings.Replace(x.text, "\nend", "\nends", 1)+"\ndone", 1+len(lines))
		refuses(t, "submit\n"+strings.Replace(x.text, "\nend", "", 1), len(lines))
	}
}

// P19.1: lines of a procedure that are not as they should be, by the line in the whole text.
func TestProcText(t *testing.T) {
	for _, head := range []string{"proc", "proc p", "proc p 0 0", "proc p x", "proc p -1", "proc \"p\" 0", "proc p 01", "proc p 0\r", "proc p \"0\""} {
		refuses(t, "submit\n"+head+"\nend\ndone", 2)
		refuses(t, "submit\n\ncall p\n"+head+"\nx\nend\ndone", 4)
		refuses(t, "submit\n"+head, 2)
	}
	for _, line := range []string{"x", "set", "set r16 1", "set r0 \"", "stop 1", "proc q 0", "call p", "done", "submit", "flush", "end x", "end end", "\"end\"", "End", "need r0 == r0", "arg r0 -1"} {
		refuses(t, "submit\nproc p 0\n"+line+"\nend\ndone", 3)
		refuses(t, "submit\nproc p 0\nend\nproc p 0\n\nstop\n"+line+"\nx\nend\ndone", 7)
		refuses(t, "submit\nproc p 0\n"+line, 3)
		refuses(t, "submit\nproc p 0\n"+line+"\n\nstop\n", 3)
	}
	// A byte 10 behind the last `end` or none, remarks and blanks within.
	p := define(api.Proc{Name: "p", Args: 1, Code: []api.Instr{{Op: api.OpArg, A: 3}, {Op: api.OpSet, Value: text("end # \n")}}})
	for _, s := range []string{"proc p 1\narg r3 0\nset r0 \"end # \\x0a\"\nend", "  proc\tp 1 # x\n\n# end\n arg  r3 0#end\n\tset r0 \"end # \\x0a\"# end\n \n  end # end"} {
		takes(t, "submit\n"+s+"\ndone", submit(p))
		takes(t, "submit\n"+s+"\n"+s+"\ncall p\n\n"+s+"\n#\ndone\n", submit(p, p, call("p"), p))
	}
	for _, p := range someProcs() {
		s, e := script.Print([]api.Step{submit(define(p))})
		if e != api.OK {
			t.Fatal(e)
		}
		takes(t, s, submit(define(p)))
	}
}

// P19.1: of two lines that are not as they should be the first one is told.
func TestTwoOffences(t *testing.T) {
	bad := []string{"x", "flush 1", "read a", "plan stroke 1", "crash", "step 9223372036854775808", "\"", "done", "call p", "open 1 2", "hand \"a", "submit 1"}
	for i := range 8 {
		for j := i + 1; j < 8; j++ {
			for k, no := range bad {
				lines := strings.Split(strings.Repeat("flush ", 8), " ")[:8]
				lines[i], lines[j] = no, bad[(i+j+k)%len(bad)]
				refuses(t, rows(lines...), i+1)
				refuses(t, rows(lines...)+"submit", i+1)
			}
		}
	}
}

// P19.1, W1: any bytes, and texts that are nearly scripts, against the chapter's words.
func TestParseAgainstWords(t *testing.T) {
	signs := []string{"\n", "\n", " ", "\t", "#", "\"", "\\", "x", "0", "1", "-", "a", "\x00", "\xff", "\r", "submit", "done", "call", "proc", "p", "end", "stop", "flush", "open", "plan", "stroke", "reading", "off", "crash", "file", "hand", "none", "read", "range", "step", "é"}
	taken, wrong := 0, map[api.Errno]int{}
	count := func(e api.Errno) {
		taken++
		wrong[e]++
	}
	for seed := range int64(4000) {
		r := rand.New(rand.NewSource(seed))
		b := make([]byte, r.Intn(40))
		for i := range b {
			b[i] = byte(r.Intn(256))
		}
		count(agrees(t, string(b)))
		s := ""
		for range r.Intn(30) {
			s += signs[r.Intn(len(signs))]
			if r.Intn(2) == 0 {
				s += " "
			}
		}
		count(agrees(t, s))
		printed, e := script.Print(anySteps(r))
		if e != api.OK {
			t.Fatal(e)
		}
		count(agrees(t, printed))
		for range 4 {
			count(agrees(t, changed(r, printed, signs)))
		}
	}
	for _, e := range []api.Errno{api.OK, api.ErrText, api.ErrName, api.ErrOp, api.ErrArg} {
		if wrong[e] < 5 {
			t.Errorf("of %d texts %d answer %v", taken, wrong[e], e)
		}
	}
}

// changed is a text with a few things put in, left out, or moved.
func changed(r *rand.Rand, s string, signs []string) string {
	for range 1 + r.Intn(3) {
		switch at := r.Intn(len(s) + 1); r.Intn(7) {
		case 0:
			s = s[:at] + signs[r.Intn(len(signs))] + s[at:]
		case 1:
			s = s[:at] + s[min(len(s), at+1+r.Intn(4)):]
		case 2:
			s = s[:at]
		case 3: // a line is left out
			lines := strings.SplitAfter(s, "\n")
			i := r.Intn(len(lines))
			s = strings.Join(append(lines[:i:i], lines[i+1:]...), "")
		case 4: // a line is put in once more, elsewhere
			lines := strings.SplitAfter(s, "\n")
			i, k := r.Intn(len(lines)), r.Intn(len(lines))
			s = strings.Join(append(append(lines[:k:k], lines[i]), lines[k:]...), "")
		case 5: // digits become others
			s = strings.Replace(s, []string{"0", "1", " 2", "r0"}[r.Intn(4)], []string{"99", "r9", " 17", "0", ""}[r.Intn(5)], 1)
		case 6: // a name becomes none
			s = strings.Replace(s, []string{"proc ", "call "}[r.Intn(2)], []string{"proc 9", "call -"}[r.Intn(2)], 1)
		}
	}
	return s
}

// P7.4 holds of scripts too: remarks, blanks, tabs and lines that say nothing make no difference but to the line's number.
func TestSaysNothing(t *testing.T) {
	for seed := range int64(600) {
		r := rand.New(rand.NewSource(seed))
		l := anySteps(r)
		s, e := script.Print(l)
		if e != api.OK {
			t.Fatal(e)
		}
		out := ""
		for line := range strings.Lines(s) {
			out += []string{"", "\n", "# x \"\n", " \t\n", "#\n\n"}[r.Intn(5)]
			for _, w := range apart(t, strings.TrimSuffix(line, "\n")) {
				out += []string{" ", "\t", "  \t "}[r.Intn(3)] + w
			}
			out += []string{"", " ", "#", " # done", "\t#\""}[r.Intn(5)] + "\n"
		}
		takes(t, out, l...)
		takes(t, strings.TrimSuffix(out, "\n"), l...)
	}
}

// W1: great texts come to their end.
func TestGreat(t *testing.T) {
	const many = 200000
	if l, line, e := script.Parse(strings.Repeat("flush\n", many)); len(l) != many || line != 0 || e != api.OK {
		t.Errorf("W1: %d, %d, %v", len(l), line, e)
	}
	refuses(t, "submit\n"+strings.Repeat("\n", many)+"x", many+2)
	parsed(t, "submit\nproc p 0\n"+strings.Repeat("stop\n", many)+"end", nil, 2, api.ErrLong)
	refuses(t, strings.Repeat("x", 1<<20), 1)
	refuses(t, "read \""+strings.Repeat("\\", 1<<20), 1)
	takes(t, "hand \"a\" \""+strings.Repeat("\\x00", 1<<18)+"\"", hand("a", strings.Repeat("\x00", 1<<18)))
	takes(t, strings.Repeat("#", 1<<20)+"\n"+strings.Repeat(" \t", 1<<19))
}
