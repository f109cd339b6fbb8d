package crew_test

import (
	"fmt"
	"runtime"
	"slices"
	"strings"
	"testing"
	"unsafe"
	"weak"

	"treadle/api"
	"treadle/crew"
)

// given is transactions that define, tell, write and delete texts of arguments, of instructions and of the state; each text is made by own.
func given(own func(s string) string) []api.Txn {
	set := func(a int, s string) api.Instr { return api.Instr{Op: api.OpSet, A: a, Value: text(own(s))} }
	code := func() []api.Instr {
		return []api.Instr{
			{Op: api.OpArg}, {Op: api.OpArg, A: 1, N: 1}, set(2, "of an instruction"), {Op: api.OpGet, A: 3},
			{Op: api.OpTell}, {Op: api.OpTell}, {Op: api.OpTell, A: 1}, {Op: api.OpTell, A: 2}, {Op: api.OpTell, A: 3},
			{Op: api.OpPut, B: 1}, {Op: api.OpPut, A: 2, B: 2}, {Op: api.OpPut, A: 1, B: 2}, {Op: api.OpNext, A: 4}, {Op: api.OpTell, A: 4},
		}
	}
	call := func(name string, args ...string) api.Txn {
		t := api.Txn{Kind: api.TxnCall, Name: own(name)}
		for _, arg := range args {
			t.Args = append(t.Args, text(own(arg)))
		}
		return t
	}
	define := func(name string) api.Txn {
		return api.Txn{Kind: api.TxnDefine, Proc: api.Proc{Name: own(name), Args: 2, Code: code()}}
	}
	return []api.Txn{
		define("first"),
		define("second"),
		call("first", "a key", "a value"),
		call("first", "a key", "another value"),
		call("second", "another key", "a value"),
		call("first", "a key", "another value"),
		define("first"),
		call("third", "a key"),
		call("first", "a key"),
		call("second", "", "given up"),
		{Kind: 7, Name: own("none"), Args: []api.Value{text(own("none"))}},
		call("first", "another key", "a key"),
	}
}

func apart(s string) string { return string([]byte(s)) }

// overwrite lays other bytes over a text.
func overwrite(s string) {
	row := unsafe.Slice(unsafe.StringData(s), len(s))
	for i := range row {
		row[i] = '!'
	}
}

// textsOf is the texts of a transaction.
func textsOf(t api.Txn) []string {
	texts := []string{t.Name, t.Proc.Name}
	for _, in := range t.Proc.Code {
		texts = append(texts, in.Value.Text)
	}
	for _, v := range t.Args {
		texts = append(texts, v.Text)
	}
	return texts
}

// kept is the texts that the stores keep beside their keys.
func (w world) kept() []string {
	var texts []string
	for _, v := range w.values.Range("", "") {
		texts = append(texts, v.Text)
	}
	for _, p := range w.procs.Range("", "") {
		texts = append(texts, p.Name)
		for _, in := range p.Code {
			texts = append(texts, in.Value.Text)
		}
	}
	return texts
}

// deep is transactions with all that they point to, in words.
func deep(txns []api.Txn) string { return fmt.Sprintf("%#v", txns) }

// P11.7: what is handed in is as it was, and so is the spare room behind its lists.
func TestHandedInUnchanged(t *testing.T) {
	for _, workers := range hands {
		txns := given(apart)
		room := make([]api.Txn, len(txns)+20)
		for i := range room {
			room[i] = api.Txn{Kind: api.TxnDefine, Proc: api.Proc{Name: "spare"}}
		}
		copy(room, txns)
		for i := range txns {
			room[i].Args = append(slices.Clone(txns[i].Args), make([]api.Value, 9)...)[:len(txns[i].Args)]
			room[i].Proc.Code = append(slices.Clone(txns[i].Proc.Code), make([]api.Instr, 9)...)[:len(txns[i].Proc.Code)]
		}
		behind := func() string {
			out := deep(room)
			for i := range txns {
				out += fmt.Sprint(room[i].Args[:cap(room[i].Args)], room[i].Proc.Code[:cap(room[i].Proc.Code)])
			}
			return out
		}
		was := behind()
		w := empty()
		outcomes, _ := w.run(room[:len(txns)], workers)
		if len(outcomes) != len(txns) || behind() != was {
			t.Errorf("P11.7: what was handed in is changed")
		}
		if _, is := w.procs.Get("spare"); is {
			t.Errorf("P11.7: what stands behind the list is run")
		}
	}
}

// P11.7, W6: what was handed in is written over afterwards: the stores and the answers stay as they are.
func TestHandedInWrittenOver(t *testing.T) {
	for _, workers := range hands {
		want := empty()
		same, _ := want.run(given(apart), 1)
		w := empty()
		txns := given(apart)
		outcomes, _ := w.run(txns, workers)
		for _, txn := range txns {
			for _, s := range textsOf(txn) {
				overwrite(s)
			}
			clear(txn.Args)
			clear(txn.Proc.Code)
		}
		clear(txns)
		if w.saidAll() != want.saidAll() {
			t.Errorf("P11.7: the stores have %s, not %s", w.saidAll(), want.saidAll())
		}
		if saidOutcomes(outcomes) != saidOutcomes(same) {
			t.Errorf("P11.7: the answer is %s, not %s", saidOutcomes(outcomes), saidOutcomes(same))
		}
		if strings.Contains(w.saidAll()+saidOutcomes(outcomes), "!") {
			t.Errorf("P11.7: %s", w.saidAll())
		}
	}
}

// P11.7, W6: what is answered is written over, spare room too: the stores, what was handed in, and other outcomes stay as they are.
func TestAnswerWrittenOver(t *testing.T) {
	for _, workers := range hands {
		w := empty()
		txns := given(apart)
		was := deep(txns)
		outcomes, rounds := w.run(txns, workers)
		again, _ := w.run(txns[3:6], workers)
		had, said := w.saidAll(), saidOutcomes(again)
		var words []string
		for _, o := range outcomes {
			words = append(words, saidOutcome(o))
		}
		for i, o := range outcomes {
			for _, v := range o.Told {
				overwrite(v.Text)
			}
			clear(o.Told[:cap(o.Told)])
			for k := i + 1; k < len(outcomes); k++ {
				if saidOutcome(outcomes[k]) != words[k] {
					t.Fatalf("W6: %d is %s, not %s, since %d was written over", k, saidOutcome(outcomes[k]), words[k], i)
				}
			}
		}
		clear(outcomes[:cap(outcomes)])
		clear(rounds[:cap(rounds)])
		if w.saidAll() != had || deep(txns) != was || saidOutcomes(again) != said {
			t.Errorf("P11.7: %s, not %s", w.saidAll(), had)
		}
	}
}

// W6: no text that is answered is memory that was handed in, that the stores keep, or another one that is answered; nor is one that is kept one that was handed in.
func TestTextsApart(t *testing.T) {
	for _, workers := range hands {
		owner := map[*byte]string{}
		claim := func(who string, texts ...string) {
			for _, s := range texts {
				if s == "" {
					continue
				}
				if was, taken := owner[unsafe.StringData(s)]; taken {
					t.Errorf("W6: %s shares %q with %s", who, s, was)
				}
				owner[unsafe.StringData(s)] = who
			}
		}
		w := empty()
		txns := given(apart)
		for _, txn := range txns {
			claim("what was handed in", textsOf(txn)...)
		}
		outcomes, _ := w.run(txns, workers)
		told := 0
		for _, o := range outcomes {
			for _, v := range o.Told {
				claim("an answer", v.Text)
				told++
			}
		}
		claim("a store", w.kept()...)
		if told < 20 || len(w.kept()) < 20 {
			t.Fatalf("it does not do what it is for: %s", saidOutcomes(outcomes))
		}
	}
}

// P11.7: of what is handed in nothing is kept: texts and lists are let go as soon as their owner lets them go, though stores and answers are kept.
func TestNotKept(t *testing.T) {
	type held struct {
		rows  []weak.Pointer[[4096]byte]
		lists []weak.Pointer[[20]api.Txn]
		codes []weak.Pointer[[14]api.Instr]
		keep  []any
	}
	told := make(chan held)
	// A goroutine of its own, so that no stack of this one holds them any more.
	go func() {
		var h held
		own := func(s string) string {
			p := new([4096]byte)
			h.rows = append(h.rows, weak.Make(p))
			return unsafe.String(&p[0], copy(p[:], s))
		}
		for _, workers := range []int{1, 4, 16} {
			list := new([20]api.Txn)
			h.lists = append(h.lists, weak.Make(list))
			txns := list[:copy(list[:], given(own))]
			for i := range txns {
				if len(txns[i].Proc.Code) == 14 {
					code := new([14]api.Instr)
					h.codes = append(h.codes, weak.Make(code))
					txns[i].Proc.Code = code[:copy(code[:], txns[i].Proc.Code)]
				}
			}
			w := empty()
			outcomes, rounds := crew.Run(w.values, w.procs, txns, workers)
			h.keep = append(h.keep, w, outcomes, rounds)
		}
		told <- h
	}()
	h := <-told
	for range 10 {
		runtime.GC()
	}
	for i, p := range h.rows {
		if p.Value() != nil {
			t.Errorf("P11.7: row %d is kept", i)
		}
	}
	for i, p := range h.lists {
		if p.Value() != nil {
			t.Errorf("P11.7: list %d is kept", i)
		}
	}
	for i, p := range h.codes {
		if p.Value() != nil {
			t.Errorf("P11.7: code %d is kept", i)
		}
	}
	if len(h.rows) < 50 || len(h.codes) != 9 {
		t.Errorf("it does not do what it is for: %d, %d", len(h.rows), len(h.codes))
	}
	runtime.KeepAlive(h.keep)
}

// W2: many runs at one time, each on stores of its own, have nothing to do with each other.
func TestTogether(t *testing.T) {
	want := empty()
	outcomes, rounds := want.run(given(apart), 1)
	said := saidOutcomes(outcomes) + saidRounds(rounds) + want.saidAll()
	answers := make(chan string)
	txns := given(apart)
	for i := range 16 {
		go func() {
			w := empty()
			outcomes, rounds := w.run(txns, i)
			answers <- saidOutcomes(outcomes) + saidRounds(rounds) + w.saidAll()
		}()
	}
	for range 16 {
		if got := <-answers; got != said {
			t.Errorf("W2: %s, not %s", got, said)
		}
	}
}
