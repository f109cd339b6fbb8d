package engine_test

import (
	"fmt"
	"reflect"
	"runtime"
	"slices"
	"testing"
	"time"
	"unsafe"
	"weak"

	"treadle/api"
	"treadle/disk"
	"treadle/engine"
)

// overwrite lays other bytes over a text; texts of one byte may be the language's own.
func overwrite(s string) {
	if len(s) < 2 {
		return
	}
	row := unsafe.Slice(unsafe.StringData(s), len(s))
	for i := range row {
		row[i] = '!'
	}
}

func apart(s string) string { return string([]byte(s)) }

// given is transactions that define, tell, write and delete texts of arguments, of instructions and of the state; no text of them is another's, and behind each list is spare room.
func given(round int) []api.Txn {
	set := func(a int, s string) api.Instr { return api.Instr{Op: api.OpSet, A: a, Value: text(apart(s))} }
	define := func(name string) api.Txn {
		code := make([]api.Instr, 0, 40)
		code = append(code,
			api.Instr{Op: api.OpArg}, api.Instr{Op: api.OpArg, A: 1, N: 1}, set(2, fmt.Sprint("of an instruction of ", name)), api.Instr{Op: api.OpGet, A: 3},
			api.Instr{Op: api.OpTell}, api.Instr{Op: api.OpTell, A: 1}, api.Instr{Op: api.OpTell, A: 2}, api.Instr{Op: api.OpTell, A: 3},
			api.Instr{Op: api.OpPut, B: 1}, api.Instr{Op: api.OpPut, A: 2, B: 2}, api.Instr{Op: api.OpPut, A: 1, B: 2}, api.Instr{Op: api.OpNext, A: 4}, api.Instr{Op: api.OpTell, A: 4})
		return api.Txn{Kind: api.TxnDefine, Proc: api.Proc{Name: apart(name), Args: 2, Code: code}}
	}
	call := func(name string, args ...string) api.Txn {
		x := api.Txn{Kind: api.TxnCall, Name: apart(name), Args: make([]api.Value, 0, 20)}
		for _, arg := range args {
			x.Args = append(x.Args, text(apart(arg)))
		}
		return x
	}
	out := make([]api.Txn, 0, 30)
	return append(out,
		define("first"), define("second"),
		call("first", "a key", fmt.Sprint("a value of ", round)),
		call("second", "another key", "a value"),
		call("first", fmt.Sprint("key of ", round), "another value"),
		call("gone", "a key"),
		call("second", "another key", "a key"))
}

// words is transactions with all that they point to, the spare room too.
func words(txns []api.Txn) string {
	out := fmt.Sprintf("%#v", txns[:cap(txns)])
	for _, x := range txns {
		out += fmt.Sprintf("%#v %#v", x.Args[:cap(x.Args)], x.Proc.Code[:cap(x.Proc.Code)])
	}
	return out
}

// spoilTxns lays other things over transactions, their lists, their texts, and the spare room.
func spoilTxns(txns []api.Txn) {
	for _, x := range txns {
		overwrite(x.Name)
		overwrite(x.Proc.Name)
		for _, in := range x.Proc.Code {
			overwrite(in.Value.Text)
		}
		for _, v := range x.Args {
			overwrite(v.Text)
		}
		spoilList(x.Args, text("spoilt"))
		spoilList(x.Proc.Code, api.Instr{Op: 99, A: 99, N: 99})
	}
	spoilList(txns, api.Txn{Kind: 99, Name: "spoilt"})
}

func spoilList[V any](list []V, with V) {
	list = list[:cap(list)]
	for i := range list {
		list[i] = with
	}
}

// spoilOutcomes lays other things over outcomes.
func spoilOutcomes(l []api.Outcome) {
	for _, x := range l {
		for _, v := range x.Told {
			overwrite(v.Text)
		}
		spoilList(x.Told, text("spoilt"))
	}
	spoilList(l, api.Outcome{Status: 99})
}

// spoilEntries lays other things over entries.
func spoilEntries(l []api.Entry) {
	for _, x := range l {
		overwrite(x.Key)
		overwrite(x.Value.Text)
	}
	spoilList(l, api.Entry{Key: "spoilt", Value: text("spoilt")})
}

// outcomesOf is outcomes in words.
func outcomesOf(l []api.Outcome) string { return fmt.Sprintf("%#v", l) }

// P18.14: what is handed in is not changed, not even the spare room.
func TestHandedInUnchanged(t *testing.T) {
	for _, workers := range anyWorkers() {
		w := dir{}.opened(t, api.Rules{Segment: 1000, Page: 2, Workers: workers})
		for round := range 3 {
			txns := given(round)
			was := words(txns)
			if _, _, e := w.x.Submit(txns); e != api.OK {
				t.Fatal(e)
			}
			w.x.Flush()
			if words(txns) != was {
				t.Errorf("P18.14: what was handed in is changed")
			}
		}
	}
}

// lived does the same calls on a disk, each with what `after` does to what was handed in and to what was answered; it tells all that was answered, and the files.
func lived(t testing.TB, workers int, after bool) string {
	w := dir{}.opened(t, api.Rules{Segment: 300, Page: 2, Workers: workers})
	said := ""
	read := func() {
		for _, key := range []string{apart("a key"), apart("another key"), apart("of an instruction of first"), apart("never")} {
			v, e := w.x.Read(key)
			said += fmt.Sprintln(v, e)
			if after {
				overwrite(key)
				overwrite(v.Text)
			}
		}
		from, to := apart("a"), apart("of an instruction of second")
		l, e := w.x.Range(from, to, 20)
		said += fmt.Sprintln(l, e)
		if after {
			overwrite(to)
			spoilEntries(l)
		}
	}
	for round := range 4 {
		txns := given(round)
		n, l, e := w.x.Submit(txns)
		said += fmt.Sprintln(n, outcomesOf(l), e)
		if after {
			spoilTxns(txns)
			spoilOutcomes(l)
		}
		read()
		if round == 1 {
			w.start(api.OK)
		}
		if round > 1 {
			is, e := w.x.Step(3)
			said += fmt.Sprintln(is, e)
		}
		read()
	}
	w.flush(28)
	said += fmt.Sprint(w.x.Sight(), w.d.Files())
	w.close()
	w = open(t, w.d, usual)
	read()
	return said
}

// P18.14, W6: what was handed in is written over behind the call, and so is what was answered: nothing changes by that, in memory and on the disk.
func TestWrittenOver(t *testing.T) {
	want := lived(t, 1, false)
	for _, workers := range anyWorkers() {
		if got := lived(t, workers, false); got != want {
			t.Errorf("P0.6: %d workers: %s, not %s", workers, got, want)
		}
		if got := lived(t, workers, true); got != want {
			t.Errorf("P18.14: %d workers: %s, not %s", workers, got, want)
		}
	}
}

// W6: no text that is answered shares memory with another answer.
func TestAnswersApart(t *testing.T) {
	w := fresh(t)
	owner := map[*byte]string{}
	claim := func(s, who string) {
		t.Helper()
		if len(s) < 2 {
			return
		}
		if was, taken := owner[unsafe.StringData(s)]; taken {
			t.Errorf("W6: %s shares %q with %s", who, s, was)
		}
		owner[unsafe.StringData(s)] = who
	}
	var kept [][]api.Entry
	for round := range 2 {
		txns := given(round)
		_, l, _ := w.x.Submit(txns)
		for i, x := range l {
			for _, v := range x.Told {
				claim(v.Text, fmt.Sprint("outcome ", i))
			}
		}
		for k := range 2 {
			entries := entriesOf(t, w.x)
			kept = append(kept, entries)
			for _, x := range entries {
				claim(x.Key, fmt.Sprint("a key of Range ", k))
				claim(x.Value.Text, fmt.Sprint("a value of Range ", k))
				v, _ := w.x.Read(x.Key)
				claim(v.Text, "Read")
			}
		}
	}
	runtime.KeepAlive(kept)
}

// W6: no two lists of one answer share memory, spare room neither.
func TestListsApart(t *testing.T) {
	w := fresh(t)
	_, l, e := w.x.Submit(given(0))
	if e != api.OK {
		t.Fatal(e)
	}
	for i := range l {
		spoilList(l[i].Told, text("spoilt"))
		for k := i + 1; k < len(l); k++ {
			if slices.Contains(l[k].Told, text("spoilt")) {
				t.Errorf("W6: the outcomes %d and %d share memory", i, k)
			}
		}
	}
}

// P18.14: the rules are kept as they were at the call.
func TestRulesKept(t *testing.T) {
	rules := api.Rules{Segment: 1, Page: 1, Workers: 1}
	w := dir{}.opened(t, rules)
	rules = api.Rules{Segment: 100000, Page: 128, Workers: -1}
	w.submit(1, 1)
	w.submit(2, 2)
	w.start(api.OK)
	w.step(rules.Page, false, api.OK)
	if names := dir(w.d.Files()).names(); !slices.Equal(names, []string{ckptName(1), logName(1), logName(2)}) {
		t.Errorf("P18.14: %v", names)
	}
}

// script is a row of calls on an Engine; each tells what it answered.
func script() []func(x *engine.Engine) string {
	var out []func(x *engine.Engine) string
	for n := 1; n < 40; n++ {
		out = append(out, func(x *engine.Engine) string {
			first, l, e := x.Submit(between(2*n-1, 2*n))
			return fmt.Sprint(first, l, e)
		})
		switch n % 5 {
		case 0:
			out = append(out, func(x *engine.Engine) string { return fmt.Sprint(x.Flush()) })
		case 1:
			out = append(out, func(x *engine.Engine) string { return fmt.Sprint(x.Start()) })
		case 4:
			out = append(out, func(x *engine.Engine) string { return fmt.Sprint(x.Trim()) })
		default:
			out = append(out, func(x *engine.Engine) string { return fmt.Sprint(x.Step(4)) })
		}
		out = append(out, func(x *engine.Engine) string { return fmt.Sprint(x.Range("", "", 99)) + fmt.Sprint(x.Sight()) })
	}
	return out
}

// W2, W6: two Engines on two disks in turns answer what each answers alone; the second one lags behind the first.
func TestTwoInTurns(t *testing.T) {
	var want []string
	alone := fresh(t)
	for _, call := range script() {
		want = append(want, call(alone.x))
	}
	one, two := fresh(t), dir{}.opened(t, api.Rules{Segment: usual.Segment, Page: usual.Page, Workers: 7})
	var got, late []string
	calls := script()
	for i := range calls {
		got = append(got, calls[i](one.x))
		if i >= 7 {
			late = append(late, calls[i-7](two.x))
		}
	}
	if !slices.Equal(got, want) || !slices.Equal(late, want[:len(late)]) {
		t.Errorf("W2: two Engines in turns: %q, %q, not %q", got, late, want)
	}
	if !reflect.DeepEqual(one.d.Files(), alone.d.Files()) {
		t.Errorf("W2: two Engines in turns: the files are %s, not %s", dir(one.d.Files()).words(), dir(alone.d.Files()).words())
	}
}

// W9: several goroutines, each with an Engine of its own, at one time.
func TestTogether(t *testing.T) {
	var want []string
	alone := fresh(t)
	for _, call := range script() {
		want = append(want, call(alone.x))
	}
	same := make(chan bool)
	for i := range 8 {
		w := dir{}.opened(t, api.Rules{Segment: usual.Segment, Page: usual.Page, Workers: i})
		go func() {
			var got []string
			for _, call := range script() {
				got = append(got, call(w.x))
			}
			same <- slices.Equal(got, want)
		}()
	}
	for range 8 {
		if !<-same {
			t.Errorf("W9: an answer hangs on another goroutine")
		}
	}
}

// A closed Engine keeps its disk no more.
func TestLetGo(t *testing.T) {
	type held struct {
		x *engine.Engine
		d weak.Pointer[disk.Disk]
	}
	told := make(chan held)
	// A goroutine of its own, so that no stack of this one holds them any more.
	go func() {
		defer close(told) // also where building one fails
		for _, w := range []world{fresh(t), goingOn(t), laden(t)} {
			w.x.Close()
			told <- held{w.x, weak.Make(w.d)}
		}
	}()
	var all []held
	for h := range told {
		all = append(all, h)
	}
	for range 10 {
		runtime.GC()
	}
	for i, h := range all {
		if h.d.Value() != nil {
			t.Errorf("P18.8: the closed Engine %d keeps its disk", i)
		}
	}
	runtime.KeepAlive(all)
}

// W2: all goroutines have ended when a call answers.
func TestNoGoroutineLeft(t *testing.T) {
	ahead := runtime.NumGoroutine()
	for _, workers := range anyWorkers() {
		w := dir{}.opened(t, api.Rules{Segment: 100, Page: 2, Workers: workers})
		for _, call := range script() {
			call(w.x)
		}
		w.x.Submit(slices.Repeat([]api.Txn{{Kind: 9}}, 3))
	}
	for i := 0; runtime.NumGoroutine() > ahead && i < 100; i++ {
		time.Sleep(time.Millisecond) // one that has told its end is counted a moment longer
	}
	if n := runtime.NumGoroutine(); n > ahead {
		t.Errorf("W2: %d goroutines, and %d ahead of it", n, ahead)
	}
}
