package script_test

import (
	"fmt"
	"reflect"
	"runtime"
	"slices"
	"strings"
	"testing"
	"time"
	"unsafe"

	"treadle/api"
	"treadle/script"
)

// own is a copy of a text in memory of its own, so that it can be written over.
func own(s string) string { return string([]byte(s)) }

// overwrite lays other bytes over a text; texts of one byte may be the language's own.
func overwrite(s string) {
	if len(s) < 2 {
		return
	}
	row := unsafe.Slice(unsafe.StringData(s), len(s))
	for i := range row {
		row[i] = '!'
	}
}

// roomy is a copy of a list with spare room, in which something stands.
func roomy[V any](l []V, spare V) []V {
	out := append(make([]V, 0, len(l)+3), l...)
	for i := len(out); i < cap(out); i++ {
		out[:cap(out)][i] = spare
	}
	return out
}

// spoil lays something over a list and its spare room.
func spoil[V any](l []V, with V) {
	l = l[:cap(l)]
	for i := range l {
		l[i] = with
	}
}

// handedIn is a copy of a step, no part of which is another's, and behind each list of which is spare room.
func handedIn(s api.Step) api.Step {
	s.Key, s.To, s.Name = own(s.Key), own(s.To), own(s.Name)
	s.Data = roomy(s.Data, '?')
	s.Txns = roomy(s.Txns, api.Txn{Kind: 77, Name: "spare"})
	for i, x := range s.Txns {
		s.Txns[i].Name, s.Txns[i].Proc.Name = own(x.Name), own(x.Proc.Name)
		s.Txns[i].Args = roomy(x.Args, text("spare"))
		s.Txns[i].Proc.Code = roomy(x.Proc.Code, api.Instr{Op: 77})
		for k, v := range x.Args {
			s.Txns[i].Args[k].Text = own(v.Text)
		}
		for k, in := range x.Proc.Code {
			s.Txns[i].Proc.Code[k].Value.Text = own(in.Value.Text)
		}
	}
	s.Plan.Strokes, s.Plan.Reads = roomy(s.Plan.Strokes, api.Fault{At: 1, Kind: 1}), roomy(s.Plan.Reads, api.Fault{At: 1, Kind: 1})
	s.Picks.Files = roomy(s.Picks.Files, api.Pick{Done: 77})
	for i, p := range s.Picks.Files {
		s.Picks.Files[i].Lost = roomy(p.Lost, 77)
	}
	return s
}

// inWords is a step with all that it points to, the spare room too.
func inWords(s api.Step) string {
	out := fmt.Sprintf("%q %q %q %d %v %q", s.Key, s.To, s.Name, s.N, s.Rules, s.Data[:cap(s.Data)])
	out += fmt.Sprintf("%+v %+v %+v %+v", s.Txns[:cap(s.Txns)], s.Plan.Strokes[:cap(s.Plan.Strokes)], s.Plan.Reads[:cap(s.Plan.Reads)], s.Picks.Files[:cap(s.Picks.Files)])
	for _, x := range s.Txns {
		out += fmt.Sprintf("%+v %+v", x.Args[:cap(x.Args)], x.Proc.Code[:cap(x.Proc.Code)])
	}
	for _, p := range s.Picks.Files {
		out += fmt.Sprint(p.Lost[:cap(p.Lost)])
	}
	return out
}

// spoilStep lays other things over a step: its texts, its lists, their spare room.
func spoilStep(s api.Step) {
	for _, w := range []string{s.Key, s.To, s.Name} {
		overwrite(w)
	}
	for _, x := range s.Txns {
		overwrite(x.Name)
		overwrite(x.Proc.Name)
		for _, v := range x.Args {
			overwrite(v.Text)
		}
		for _, in := range x.Proc.Code {
			overwrite(in.Value.Text)
		}
		spoil(x.Args, text("spoilt"))
		spoil(x.Proc.Code, api.Instr{Op: 99, A: 99})
	}
	for _, p := range s.Picks.Files {
		spoil(p.Lost, 0)
	}
	spoil(s.Txns, api.Txn{Kind: 99, Name: "spoilt"})
	spoil(s.Plan.Strokes, api.Fault{At: 1, Kind: api.FaultOff})
	spoil(s.Plan.Reads, api.Fault{At: 1, Kind: api.FaultOff})
	spoil(s.Picks.Files, api.Pick{Done: 99})
	spoil(s.Data, '!')
}

// spoilAnswer lays other things over an answer.
func spoilAnswer(a api.Answer) {
	overwrite(a.Value.Text)
	for _, x := range a.Outcomes {
		for _, v := range x.Told {
			overwrite(v.Text)
		}
		spoil(x.Told, text("spoilt"))
	}
	for _, x := range a.Entries {
		overwrite(x.Key)
		overwrite(x.Value.Text)
	}
	for _, f := range a.Files {
		overwrite(f.Name)
		spoil(f.Data, '!')
	}
	spoil(a.Outcomes, api.Outcome{Status: 99})
	spoil(a.Entries, api.Entry{Key: "spoilt"})
	spoil(a.Files, api.FileBytes{Name: "spoilt"})
}

// P19.7, W6: steps are not changed; they are written over behind the call, and so are the answers: nothing of it is seen afterwards.
func TestWrittenOver(t *testing.T) {
	for seed := range int64(80) {
		w, by := theWorld(t, 6000, 20), theWorld(t, 6000, 20)
		for i, s := range newPlay(seed).steps(120) {
			want := by.Do(handedIn(s))
			given := handedIn(s)
			was := inWords(given)
			got := w.Do(given)
			if now := inWords(given); now != was {
				t.Fatalf("P19.7: play %d, step %d is changed: %s, and was %s", seed, i, now, was)
			}
			if !reflect.DeepEqual(tidied(got), tidied(want)) {
				t.Fatalf("P19.7: play %d, step %d, %s: %s, not %s", seed, i, told(s), told(got), told(want))
			}
			spoilStep(given)
			spoilAnswer(got)
			again, all := w.Do(files), by.Do(files)
			if !reflect.DeepEqual(tidied(again), tidied(all)) {
				t.Fatalf("P19.7: play %d: other files behind step %d, %s", seed, i, told(s))
			}
			spoilAnswer(again)
			if e := w.Do(span("", "", 99)); !reflect.DeepEqual(tidied(e), tidied(by.Do(span("", "", 99)))) {
				t.Fatalf("P19.7: play %d: another state behind step %d, %s", seed, i, told(s))
			} else {
				spoilAnswer(e)
			}
		}
	}
}

// P19.7: a plan and picks that are written over behind the call do what they said.
func TestPlanKept(t *testing.T) {
	w := theWorld(t, 3000, 9)
	does(t, w, usual, submit(define(put2()), putA1))
	s := handedIn(plan([]api.Fault{{At: 3, Kind: api.FaultIO}}, []api.Fault{{At: 2, Kind: api.FaultIO}}))
	does(t, w, s)
	spoil(s.Plan.Strokes, api.Fault{At: 1, Kind: api.FaultOff})
	spoil(s.Plan.Reads, api.Fault{At: 1, Kind: api.FaultOff})
	errs(t, w, flush, api.ErrIO)
	if names := namesOf(w); !slices.Equal(names, []string{firstLog}) {
		t.Errorf("P19.7: the first two strokes were not done: %v", names)
	}
	h := handedIn(hand("other", "several bytes"))
	does(t, w, h)
	spoilStep(h)
	for range 2 {
		a := w.Do(files)
		if len(a.Files) != 2 || a.Files[1].Name != "other" || string(a.Files[1].Data) != "several bytes" {
			t.Fatalf("P19.7: %s", told(a.Files))
		}
		spoilAnswer(a)
	}
}

// P19.7, W6: what Print is handed is not changed; its text is new.
func TestPrintChangesNothing(t *testing.T) {
	var l []api.Step
	var was []string
	for _, s := range append(each(), offences()[0].step) {
		l = append(l, handedIn(s))
		was = append(was, inWords(l[len(l)-1]))
	}
	sound := roomy(l[:len(l)-1], plain(99))
	s, e := script.Print(sound)
	if e != ok || s != slowPrint(each()) {
		t.Fatal(s, e)
	}
	if _, e := script.Print(l); e != api.ErrStep {
		t.Error(e)
	}
	for i, x := range l {
		if now := inWords(x); now != was[i] {
			t.Errorf("P19.7: step %d is changed: %s, and was %s", i, now, was[i])
		}
	}
	for _, x := range sound[len(sound):cap(sound)] {
		if x.Kind != 99 {
			t.Errorf("P19.7: spare room is changed: %s", told(x))
		}
	}
	for _, x := range l {
		spoilStep(x)
	}
	if s != slowPrint(each()) {
		t.Errorf("P19.7: the text shares memory with the steps: %s", told(s))
	}
	one := read(strings.Repeat("k", 50))
	a, _ := script.Print([]api.Step{one})
	b, _ := script.Print([]api.Step{one})
	overwrite(a)
	if b != slowPrint([]api.Step{one}) {
		t.Errorf("W6: two texts share memory: %s", b)
	}
}

// P19.7, W6: the steps that Parse answers share no memory with the text, nor with those of another answer.
func TestParseNewMemory(t *testing.T) {
	want := append(each(), read("several bytes"), span("from there", "to there", 3), hand("a name", "several bytes"), submit(call("aname", text("several bytes"), text("")), define(someProcs()[2])))
	printed := slowPrint(want)
	given := own(printed)
	got, _, e := script.Parse(given)
	other, _, _ := script.Parse(given)
	if e != ok {
		t.Fatal(e)
	}
	overwrite(given)
	if !same(got, want) {
		t.Errorf("P19.7: the steps share memory with the text")
	}
	for _, s := range other {
		spoilStep(s)
	}
	spoil(other, plain(99))
	if !same(got, want) {
		t.Errorf("P19.7: two answers share memory")
	}
	// Of one answer no two lists and no two texts share any.
	text := slowPrint([]api.Step{submit(call("pp", textOf(5), textOf(5)), call("pp", textOf(5))), plan([]api.Fault{{At: 1, Kind: 1}}, []api.Fault{{At: 1, Kind: 1}}), plan([]api.Fault{{At: 1, Kind: 1}}, nil), crash(0, api.Pick{Lost: []int{1}}, api.Pick{Lost: []int{1}}), crash(0, api.Pick{Lost: []int{1}}), hand("xx", "yyy"), hand("xx", "yyy"), read("xx"), read("xx")})
	all, _, _ := script.Parse(text)
	was, _, _ := script.Parse(text)
	for i := range all {
		spoilStep(all[i])
		if !same(all[i+1:], was[i+1:]) {
			t.Errorf("W6: step %d shares memory with a later one", i)
		}
	}
	all, _, _ = script.Parse(text)
	spoil(all[0].Txns[0].Args, num(9))
	spoil(all[1].Plan.Strokes, api.Fault{})
	spoil(all[3].Picks.Files[0].Lost, 9)
	if all[0].Txns[1].Args[0] != textOf(5) || all[1].Plan.Reads[0].At != 1 || all[3].Picks.Files[1].Lost[0] != 1 {
		t.Errorf("W6: lists of one step share memory: %s", told(all))
	}
}

func textOf(n int) api.Value { return text(long(n)) }

// W6: no text that is answered shares memory with another answer's.
func TestAnswersApart(t *testing.T) {
	w := theWorld(t, 6000, 20)
	does(t, w, usual, submit(history(1), history(2)))
	tell := lines("proc tell 1", "arg r0 0", "tell r0", "tell r0", "put r0 r0")
	owner := map[*byte]string{}
	var kept []api.Answer
	claim := func(s, who string) {
		t.Helper()
		if len(s) < 2 {
			return
		}
		if was, taken := owner[unsafe.StringData(s)]; taken {
			t.Errorf("W6: %s shares %q with %s", who, s, was)
		}
		owner[unsafe.StringData(s)] = who
	}
	for round := range 3 {
		for _, s := range []api.Step{submit(tell, call("tell", text("some text"))), flush, read("some text"), span("", "", 99), files, crash(0), usual} {
			a := w.Do(s)
			if a.Err != ok {
				t.Fatal(a.Err)
			}
			kept = append(kept, a)
			who := fmt.Sprint("kind ", s.Kind, " of round ", round)
			claim(a.Value.Text, who)
			for _, x := range a.Outcomes {
				for _, v := range x.Told {
					claim(v.Text, who)
				}
			}
			for _, x := range a.Entries {
				claim(x.Key, who)
				claim(x.Value.Text, who)
			}
			for _, f := range a.Files {
				claim(f.Name, who)
			}
		}
	}
	runtime.KeepAlive(kept)
}

// W8: a World that is copied as a value goes on as the copy, whatever is open in it.
func TestCopied(t *testing.T) {
	for seed := range int64(40) {
		w, by := theWorld(t, 6000, 20), theWorld(t, 6000, 20)
		if seed%4 == 0 {
			w, by = &script.World{}, &script.World{}
		}
		for i, s := range newPlay(seed).steps(100) {
			copied := *w
			w = &copied
			if got, want := w.Do(s), by.Do(s); !reflect.DeepEqual(tidied(got), tidied(want)) {
				t.Fatalf("W8: play %d, step %d, %s: %s, not %s", seed, i, told(s), told(got), told(want))
			}
			if !reflect.DeepEqual(w.Do(files), by.Do(files)) {
				t.Fatalf("W8: play %d, step %d, %s: other files", seed, i, told(s))
			}
		}
	}
}

// P19.6, W2: two worlds of the same room in turns, one lagging behind the other, and a third one of which all is unlike:
// the same answers, the same files behind each step.
func TestTwoWorlds(t *testing.T) {
	for seed := range int64(100) {
		room := []int{40000, 3000, 900}[seed%3]
		one, two, other := theWorld(t, room, 20), theWorld(t, room, 20), theWorld(t, room+1, 12)
		steps, odd := newPlay(seed).steps(120), newPlay(seed+1000).steps(120)
		var said []api.Answer
		var had [][]api.FileBytes
		const lag = 5
		for i := range len(steps) + lag {
			if i < len(steps) {
				said = append(said, one.Do(steps[i]))
				had = append(had, one.Do(files).Files)
				other.Do(odd[i])
			}
			if k := i - lag; k >= 0 {
				if a := two.Do(steps[k]); !reflect.DeepEqual(a, said[k]) {
					t.Fatalf("P19.6: play %d, step %d, %s: %s, not %s", seed, k, told(steps[k]), told(a), told(said[k]))
				}
				if !reflect.DeepEqual(two.Do(files).Files, had[k]) {
					t.Fatalf("P19.6: play %d, step %d, %s: other files", seed, k, told(steps[k]))
				}
			}
		}
	}
}

// P19.6, P19.5: a script that was printed and read does what it did.
func TestPlayedFromText(t *testing.T) {
	for seed := range int64(60) {
		one, two := theWorld(t, 6000, 20), theWorld(t, 6000, 20)
		var steps []api.Step
		for _, s := range newPlay(seed).steps(120) {
			if _, e := script.Print([]api.Step{s}); e == ok {
				steps = append(steps, s)
			}
		}
		if len(steps) < 100 {
			t.Fatalf("%d steps", len(steps))
		}
		s, _ := script.Print(steps)
		again, line, e := script.Parse(s)
		if e != ok || len(again) != len(steps) {
			t.Fatal(len(again), line, e)
		}
		for i := range steps {
			if a, b := one.Do(steps[i]), two.Do(again[i]); !reflect.DeepEqual(a, b) {
				t.Fatalf("P19.6: play %d, step %d, %s: %s, not %s", seed, i, told(steps[i]), told(b), told(a))
			}
		}
		if !reflect.DeepEqual(one.Do(files), two.Do(files)) {
			t.Errorf("P19.6: play %d: other files", seed)
		}
	}
}

// W9, W2: several goroutines at one time, each with a World of its own, and with texts of its own.
func TestTogether(t *testing.T) {
	played := func() string {
		w, out := theWorld(t, 6000, 20), ""
		for _, s := range newPlay(7).steps(100) {
			out += fmt.Sprint(w.Do(s))
		}
		s, _ := script.Print(each())
		l, line, e := script.Parse(s)
		return out + fmt.Sprint(w.Do(files), l, line, e)
	}
	want := played()
	same := make(chan bool)
	for range 8 {
		go func() { same <- played() == want }()
	}
	for range 8 {
		if !<-same {
			t.Errorf("W9: an answer hangs on another goroutine")
		}
	}
}

// W2: what was pulled has ended when a call answers, whatever it answers.
func TestNoGoroutineLeft(t *testing.T) {
	ahead := runtime.NumGoroutine()
	for range 50 {
		for _, s := range []string{"", "flush\n\n", "x\nflush\n", "submit\nproc p 0\narg r0 0\nend\ndone\n\n\n", "submit\nproc p 0\n", "flush\n\"\nflush\n", strings.Repeat("flush\n", 100)} {
			script.Parse(s)
		}
	}
	for i := 0; runtime.NumGoroutine() > ahead && i < 100; i++ {
		time.Sleep(time.Millisecond) // one that has told its end is counted a moment longer
	}
	if n := runtime.NumGoroutine(); n > ahead {
		t.Errorf("W2: %d goroutines, and %d ahead of it", n, ahead)
	}
}
