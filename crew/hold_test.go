package crew_test

import (
	"fmt"
	"math/rand"
	"strings"
	"testing"

	"treadle/api"
)

// saidSlots is all slots of both stores that there may be.
func (w world) saidSlots() string {
	var out strings.Builder
	for _, key := range append([]string{"g", "z"}, pool...) {
		slot, is := w.values.Slot(key)
		fmt.Fprintln(&out, key, slot, is)
	}
	for _, name := range names {
		slot, is := w.procs.Slot(name)
		fmt.Fprintln(&out, name, slot, is)
	}
	return out.String()
}

// saidHeld is what both stores hold.
func (w world) saidHeld() string {
	var out strings.Builder
	for key, v := range w.values.Snapshot("") {
		fmt.Fprintln(&out, key, v)
	}
	for name, p := range w.procs.Snapshot("") {
		fmt.Fprintln(&out, name, p)
	}
	return out.String()
}

// P11.7, P0.7: stores that are marked, both or one of them, stay so, and hold what they had when they were marked, run behind run.
func TestMarked(t *testing.T) {
	for seed := range int64(800) {
		r := rand.New(rand.NewSource(seed))
		w := anyWorld(r)
		for range 3 {
			marks := r.Intn(4)
			had := w.mark(marks).saidHeld()
			for range 1 + r.Intn(3) {
				w.run(anyTxns(r), oneOf(r, hands))
				if w.values.Marked() != (marks&1 != 0) || w.procs.Marked() != (marks&2 != 0) {
					t.Fatalf("P11.7: seed %d: marked %v, %v", seed, w.values.Marked(), w.procs.Marked())
				}
				if got := w.saidHeld(); got != had {
					t.Fatalf("P11.7: seed %d: it holds %s, not %s", seed, got, had)
				}
			}
			w.values.Done()
			w.procs.Done()
		}
	}
}

// P11.2, P11.7: the stores are, slot by slot, what comes of laying all writes in the order of the transactions, marked or not, and behind a mark.
func TestLaidInOrder(t *testing.T) {
	unlike := 0
	for seed := range int64(800) {
		w, other := anyWorld(rand.New(rand.NewSource(seed))), anyWorld(rand.New(rand.NewSource(seed)))
		r := rand.New(rand.NewSource(seed + 1<<30))
		for range 4 {
			switch marks := r.Intn(4); r.Intn(3) {
			case 0:
				w.mark(marks)
				other.mark(marks)
			case 1:
				for _, x := range []world{w, other} {
					x.values.Done()
					x.procs.Done()
				}
			}
			txns := anyTxns(r)
			was := w.saidSlots()
			s := slowOf(w)
			s.run(txns, other)
			w.run(txns, oneOf(r, hands))
			if got, want := w.saidSlots(), other.saidSlots(); got != want {
				t.Fatalf("P11.2: seed %d: %s, not %s", seed, got, want)
			} else if got != was {
				unlike++
			}
		}
	}
	if unlike < 1000 {
		t.Errorf("only %d times something was written", unlike)
	}
}

// P11.2, P11.7: one key deleted and put in one round has the slot that comes of both, one behind the other.
func TestDeletedAndPut(t *testing.T) {
	w := worldOf(t, "z=1")
	w.values.Mark()
	w.run(txnsOf(t, `p "z" 2`), 1)
	w.values.Done()
	if slot, _ := w.values.Slot("z"); slot.Read != 0 {
		t.Fatalf("it does not do what it is for: %v", slot)
	}
	w.run(txnsOf(t, `d "z"; p "z" 3`), 2)
	want := api.Slot[api.Value]{Copies: [2]api.Value{{}, num(3)}, Has: [2]bool{false, true}, Read: 1, Write: 1}
	if slot, is := w.values.Slot("z"); !is || slot != want {
		t.Errorf("P11.2: %v, %v", slot, is)
	}
}
