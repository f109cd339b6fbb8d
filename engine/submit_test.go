package engine_test

import (
	"fmt"
	"reflect"
	"slices"
	"strings"
	"testing"

	"treadle/api"
	"treadle/batch"
	"treadle/engine"
)

// offends is lists of transactions that are no batch, each with its error.
func offends() map[string]struct {
	txns []api.Txn
	e    api.Errno
} {
	long := slices.Repeat([]api.Value{text(strings.Repeat("x", 256))}, 16)
	drop := call("drop", text("key 0"))
	type x = struct {
		txns []api.Txn
		e    api.Errno
	}
	return map[string]x{
		"none":                   {nil, api.ErrArg},
		"empty":                  {[]api.Txn{}, api.ErrArg},
		"65":                     {slices.Repeat([]api.Txn{drop}, 65), api.ErrArg},
		"no kind":                {[]api.Txn{drop, {}}, api.ErrArg},
		"another kind":           {[]api.Txn{drop, {Kind: 3}}, api.ErrArg},
		"a definition's name":    {[]api.Txn{{Kind: api.TxnDefine, Name: "p", Proc: api.Proc{Name: "p"}}}, api.ErrForm},
		"a call's procedure":     {[]api.Txn{drop, {Kind: api.TxnCall, Name: "p", Proc: api.Proc{Name: "p"}}}, api.ErrForm},
		"a name that is none":    {[]api.Txn{drop, call("1p")}, api.ErrName},
		"a definition's no name": {[]api.Txn{drop, {Kind: api.TxnDefine}}, api.ErrName},
		"17 arguments":           {[]api.Txn{drop, call("p", make([]api.Value, 17)...)}, api.ErrLong},
		"a long argument":        {[]api.Txn{drop, call("p", text(strings.Repeat("x", 257)))}, api.ErrLong},
		"no argument":            {[]api.Txn{drop, call("p", api.Value{Kind: 9})}, api.ErrKind},
		"no instruction":         {[]api.Txn{drop, {Kind: api.TxnDefine, Proc: api.Proc{Name: "drop", Code: []api.Instr{{Op: 99}}}}}, api.ErrOp},
		"too many bytes":         {slices.Repeat([]api.Txn{call("drop", long...)}, 17), api.ErrLong},
		"the first one decides":  {[]api.Txn{call("1p"), {Kind: 3}}, api.ErrName},
	}
}

// P18.2: each error of chapter 13's Append; nothing is run then, nothing waits, no number is taken.
func TestRefusedBatches(t *testing.T) {
	for what, x := range offends() {
		if e := batch.Check(api.Batch{First: 1, Txns: x.txns}); e != x.e && what != "too many bytes" {
			t.Fatalf("%s: %v, not %v", what, e, x.e)
		}
		w := fresh(t)
		w.submit(1, 6)
		w.refuses("P18.2: "+what, x.e, submitting(x.txns...))
		w.flush(6)
		w.refuses("P18.2: "+what, x.e, submitting(x.txns...))
		w.flush(6)
		w.submit(7, 9)
		w.has("P18.2", at(9))
	}
}

// P18.2: ErrClosed ahead of ErrBroken, that ahead of ErrNumber, that ahead of the batch's own errors.
func TestSubmitOrder(t *testing.T) {
	end := func() world {
		return dir{man(of(1, 4, most-2, 0, 0)), file(ckptName(4), image(4, most-2, 1, at(6)))}.opened(t, usual)
	}
	bad := api.Txn{Kind: 9}
	w := end()
	w.shows("P18.1", api.Sight{Next: most - 1, Durable: most - 2, Base: most - 2, Keys: len(at(6).values)})
	w.refuses("P18.2", api.ErrNumber, submitting(bad, bad, bad), submitting(between(3, 5)...), submitting(slices.Repeat([]api.Txn{bad}, 65)...))
	w.refuses("P18.2", api.ErrArg, submitting(bad, bad), submitting(bad), submitting())
	if n, l, e := w.x.Submit(between(8, 9)); n != most-1 || len(l) != 2 || e != api.OK {
		t.Errorf("P18.2: %d, %v, %v", n, l, e)
	}
	w.refuses("P18.2", api.ErrNumber, submitting(bad), submitting(history(5)))
	w.refuses("P18.2", api.ErrArg, submitting())
	w.d.Plan(strokeFails(1, api.FaultIO))
	if n, e := w.x.Flush(); n != 0 || e != api.ErrIO {
		t.Errorf("P18.3: %d, %v", n, e)
	}
	w.refuses("P18.2", api.ErrBroken, submitting(bad), submitting(history(5)), submitting())
	w.close()
	w.refuses("P18.2", api.ErrClosed, submitting(bad), submitting(history(5)), submitting())
}

// P18.2, P18.5: at the end of the numbers what is there is flushed, and is in a checkpoint.
func TestLastNumber(t *testing.T) {
	w := dir{man(of(most-1, 4, most-2, 0, 0)), file(ckptName(4), image(4, most-2, 1, at(6)))}.opened(t, usual)
	if n, _, e := w.x.Submit(between(7, 8)); n != most-1 || e != api.OK {
		t.Fatalf("P18.2: %d, %v", n, e)
	}
	w.start(api.OK)
	w.end()
	w.shows("P18.6", api.Sight{Next: most + 1, Durable: most, Base: most, Keys: len(at(8).values)})
	w.flush(most)
	w.trim(api.OK)
	w.close()
	x, o, e := engine.Open(w.d, usual)
	if e != api.OK || o != (api.Opened{Base: most, Last: most}) {
		t.Fatalf("P18.1: %+v, %v", o, e)
	}
	again := world{t, w.d, x}
	again.has("P18.1", at(8))
	again.refuses("P18.2", api.ErrNumber, submitting(history(3)))
}

// P18.2: the number of the first one, and the outcomes, on any number of workers; what is read right behind it, with no stroke.
func TestOutcomes(t *testing.T) {
	for _, workers := range anyWorkers() {
		rules := usual
		rules.Workers = workers
		w := dir{}.opened(t, rules)
		want := newState()
		for first := 1; first < 200; {
			last := first + []int{1, 2, 64, 17, 5}[first%5] - 1
			n, l, e := w.x.Submit(between(first, last))
			if wl := want.all(between(first, last)); n != first || !sameOutcomes(l, wl) || e != api.OK {
				t.Fatalf("P18.2: %d workers, %d to %d: %d, %v, %v, not %v", workers, first, last, n, l, e, wl)
			}
			w.has(fmt.Sprintf("P18.2: %d workers, behind %d", workers, last), want)
			w.shows("P18.2", api.Sight{Next: last + 1, Durable: w.x.Sight().Durable, Keys: len(want.values)})
			if w.d.Strokes() != 0 {
				t.Fatalf("P18.2: %d strokes", w.d.Strokes())
			}
			if first%3 == 0 {
				w.flush(last)
				w.has("P18.3", want)
				w.d.Plan(api.Plan{})
			}
			first = last + 1
		}
	}
}

func sameOutcomes(a, b []api.Outcome) bool {
	return slices.EqualFunc(a, b, func(x, y api.Outcome) bool {
		return x.Status == y.Status && x.At == y.At && slices.Equal(x.Told, y.Told)
	})
}

// P18.2: a transaction that gives up is accepted: it has a number, and its outcome; it changes nothing (P18.10).
func TestGivenUp(t *testing.T) {
	w := fresh(t)
	w.submit(1, 2)
	n, l, e := w.x.Submit([]api.Txn{call("fold", text("a"), text("x")), call("gone"), call("fold", text("a")), call("drop", text("a")), call("drop", num(7))})
	want := []api.Outcome{{Status: api.StatusKind, At: 5}, {Status: api.StatusName}, {Status: api.StatusArgs}, {Status: api.StatusNeed, At: 2}, {Status: api.StatusKind, At: 1}}
	if n != 3 || !reflect.DeepEqual(l, want) || e != api.OK {
		t.Errorf("P18.2: %d, %+v, %v", n, l, e)
	}
	w.shows("P18.10", api.Sight{Next: 8})
	w.flush(7)
	w.close()
	if _, o, e := engine.Open(w.d, usual); e != api.OK || o != (api.Opened{Last: 7, Replayed: 7}) {
		t.Errorf("P18.10: %+v, %v", o, e)
	}
}

// P18.2: the power is off: Submit needs none.
func TestSubmitWithoutPower(t *testing.T) {
	w := fresh(t)
	off(t, w.d)
	w.submit(1, 6)
	w.has("P18.2", at(6))
	w.shows("P18.2", api.Sight{Next: 7, Keys: len(at(6).values)})
	if n, e := w.x.Flush(); n != 0 || e != api.ErrOff {
		t.Errorf("P18.3: %d, %v", n, e)
	}
	w.shows("P18.3", api.Sight{Broken: true, Next: 7, Keys: len(at(6).values)})
}
