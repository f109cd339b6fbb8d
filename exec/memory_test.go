package exec_test

import (
	"runtime"
	"slices"
	"testing"
	"unsafe"
	"weak"

	"treadle/api"
	"treadle/exec"
)

// all is instructions that tell, write and look at texts that come from an argument, an instruction and the state.
const all = `arg r0 0 / set r1 "a text of an instruction" / get r2 r0 / tell r0 / tell r1 / tell r2 / tell r2 /
	put r1 r0 / put r2 r1 / put r0 r2 / get r3 r1 / tell r3 / next r4 r0 / tell r4 / put r4 r4 / next r5 r6 / tell r5 / put r5 r0 /
	set r6 "" / join r7 r6 r0 / tell r7 / count r8 r0 r4 2 / count r8 r1 r4 64 / count r8 r9 r9 1`

// entries is a state, with its texts as they are made.
func entries(own func(s string) string) state {
	return state{
		{Key: own("0 a number"), Value: num(3)},
		{Key: own("the argument"), Value: text(own("what the argument has"))},
		{Key: own("the last of all"), Value: num(7)},
	}
}

// given is a state, a procedure and arguments, all of whose texts are memory of their own.
func given(t *testing.T) (state, api.Proc, []api.Value) {
	own := func(s string) string { return string([]byte(s)) }
	return entries(own), codeOf(t, 1, all), []api.Value{text(own("the argument"))}
}

// texts are the texts of an Effect, each with the list that it stands in.
func texts(e api.Effect) map[string][]string {
	out := map[string][]string{}
	for _, v := range e.Outcome.Told {
		out["told"] = append(out["told"], v.Text)
	}
	for _, w := range e.Writes {
		out["writes"] = append(out["writes"], w.Key, w.Value.Text)
	}
	for _, l := range e.Looks {
		out["looks"] = append(out["looks"], l.From, l.To)
	}
	return out
}

// overwrite lays other bytes over a text.
func overwrite(s string) {
	row := unsafe.Slice(unsafe.StringData(s), len(s))
	for i := range row {
		row[i] = '!'
	}
}

// W6: no text that is answered is the memory of one that was handed in, or of another one that is answered.
func TestTextsApart(t *testing.T) {
	s, p, args := given(t)
	owner := map[*byte]string{}
	claim := func(text, who string) {
		t.Helper()
		if text == "" {
			return
		}
		at := unsafe.StringData(text)
		if was, taken := owner[at]; taken {
			t.Errorf("W6: %s shares %q with %s", who, text, was)
		}
		owner[at] = who
	}
	for _, e := range s {
		claim(e.Key, "the state")
		claim(e.Value.Text, "the state")
	}
	for _, in := range p.Code {
		claim(in.Value.Text, "the procedure")
	}
	for _, v := range args {
		claim(v.Text, "the arguments")
	}
	for _, who := range []string{"one answer's ", "another answer's "} {
		e := exec.Run(s, p, args)
		if e.Outcome.Status != api.StatusDone || len(e.Writes) < 4 || len(e.Looks) < 5 {
			t.Fatalf("it does not do what it is for: %s", said(e))
		}
		for list, of := range texts(e) {
			for _, text := range of {
				claim(text, who+list)
			}
		}
	}
}

// W6: an answer written over changes neither what was handed in nor another answer, and what was handed in written over changes no answer.
func TestWrittenOver(t *testing.T) {
	s, p, args := given(t)
	want := said(slowRun(s, p, args))
	one, two := exec.Run(s, p, args), exec.Run(s, p, args)
	for _, of := range texts(one) {
		for _, text := range of {
			overwrite(text)
		}
	}
	clear(one.Outcome.Told[:cap(one.Outcome.Told)])
	clear(one.Writes[:cap(one.Writes)])
	clear(one.Looks[:cap(one.Looks)])
	if said(two) != want {
		t.Errorf("W6: another answer is %s, not %s", said(two), want)
	}
	three := exec.Run(s, p, args)
	if said(three) != want {
		t.Errorf("W6: what was handed in is changed: %s, not %s", said(three), want)
	}
	for _, in := range p.Code {
		overwrite(in.Value.Text)
	}
	for _, e := range s {
		overwrite(e.Key)
		overwrite(e.Value.Text)
	}
	overwrite(args[0].Text)
	clear(p.Code)
	clear(args)
	clear(s)
	if said(two) != want || said(three) != want {
		t.Errorf("W6: the answers are %s and %s, not %s", said(two), said(three), want)
	}
}

// W6: what a call that gave up has looked at is memory of its own too.
func TestGivenUpWrittenOver(t *testing.T) {
	own := string([]byte("the key"))
	args := []api.Value{text(own)}
	p := codeOf(t, 1, `arg r0 0 / get r1 r0 / next r1 r0 / count r1 r0 r0 1 / put r9 r9`)
	e := exec.Run(nil, p, args)
	overwrite(own)
	if said(e) != `kind at 4; looks the key..the key, the key\x00.., the key..the key` {
		t.Errorf("W6: %s", said(e))
	}
}

// W6: the spare room behind the lists that are handed in stays as it was, and so do the lists.
func TestSpareRoom(t *testing.T) {
	s, p, args := given(t)
	code := append(slices.Clone(p.Code), make([]api.Instr, 50)...)
	room := append(slices.Clone(args), make([]api.Value, 50)...)
	for i := range 50 {
		code[len(p.Code)+i] = api.Instr{Op: 99, A: i}
		room[len(args)+i] = num(int64(i))
	}
	codeWas, roomWas := slices.Clone(code), slices.Clone(room)
	p.Code = code[:len(p.Code)]
	e := exec.Run(s, p, room[:len(args)])
	if !slices.Equal(code, codeWas) || !slices.Equal(room, roomWas) {
		t.Errorf("W6: the room behind what was handed in is written on")
	}
	if p.Name != "p" || p.Args != 1 || said(e) != said(slowRun(s, p, args)) {
		t.Errorf("P10.5: %v, %s", p, said(e))
	}
}

// W5: nil lists and empty ones are the same.
func TestNilLists(t *testing.T) {
	for _, code := range [][]api.Instr{nil, {}} {
		for _, args := range [][]api.Value{nil, {}} {
			if e := exec.Run(nil, api.Proc{Name: "p", Code: code}, args); said(e) != "done" {
				t.Errorf("W5: %s", said(e))
			}
			if e := exec.Run(nil, api.Proc{Name: "p", Args: 1, Code: code}, args); said(e) != "args at 0" {
				t.Errorf("W5: %s", said(e))
			}
		}
	}
}

// W6: texts, lists and the View that were handed in are let go as soon as their owner lets them go, though the answer is kept.
func TestNotKept(t *testing.T) {
	type held struct {
		rows []weak.Pointer[[4096]byte]
		keep []api.Effect
	}
	procs := []api.Proc{codeOf(t, 1, all+" / tell r0"), codeOf(t, 1, all+" / put r15 r15")}
	told := make(chan held)
	// A goroutine of its own, so that no stack of this one holds them any more.
	go func() {
		var h held
		own := func(s string) string {
			p := new([4096]byte)
			h.rows = append(h.rows, weak.Make(p))
			return unsafe.String(&p[0], copy(p[:], s))
		}
		for _, p := range procs {
			p.Name, p.Code = own(p.Name), slices.Clone(p.Code)
			for i := range p.Code {
				p.Code[i].Value.Text = own(p.Code[i].Value.Text)
			}
			h.keep = append(h.keep, exec.Run(entries(own), p, []api.Value{text(own("the argument"))}))
		}
		told <- h
	}()
	h := <-told
	for range 10 {
		runtime.GC()
	}
	for i, p := range h.rows {
		if p.Value() != nil {
			t.Errorf("W6: row %d is kept", i)
		}
	}
	for _, e := range h.keep {
		if len(e.Looks) < 5 {
			t.Errorf("it does not do what it is for: %s", said(e))
		}
	}
}

// W2: the same call, the same Effect, by many goroutines at one time on one state too.
func TestTogether(t *testing.T) {
	s, p, args := given(t)
	want := said(slowRun(s, p, args))
	answers := make(chan string)
	for range 8 {
		go func() { answers <- said(exec.Run(s, p, args)) }()
	}
	for range 8 {
		if got := <-answers; got != want {
			t.Errorf("W2: %s, not %s", got, want)
		}
	}
}
