package zigzag_test

import (
	"fmt"
	"math/rand"
	"slices"
	"testing"

	"treadle/api"
	"treadle/zigzag"
)

// above is those of some pairs whose keys are above a text.
func above(ps []pair, text string) []pair {
	return slices.DeleteFunc(slices.Clone(ps), func(p pair) bool { return p.key <= text })
}

// P9.10: at every moment from a Mark to its Done a Snapshot goes through what the keys had when it was marked, from anywhere on.
func TestHeld(t *testing.T) {
	for seed := range int64(60) {
		r := rand.New(rand.NewSource(seed))
		keys := someKeys(r)
		s := zigzag.New[int]()
		for range 6 {
			for range r.Intn(30) {
				write(s, r, keys)
			}
			had := above(pairs(s.Range("", "")), "")
			if e := s.Mark(); e != api.OK {
				t.Fatalf("P9.5: %v", e)
			}
			for range r.Intn(60) {
				for _, k := range append(keys, "") {
					if got := pairs(s.Snapshot(k)); !slices.Equal(got, above(had, k)) {
						t.Fatalf("P9.10: seed %d: Snapshot(%q): %v, not %v", seed, k, got, above(had, k))
					}
				}
				write(s, r, keys)
			}
			s.Done()
		}
	}
}

// write puts or deletes at a key, by chance.
func write(s store, r *rand.Rand, keys []string) {
	k := keys[r.Intn(len(keys))]
	if r.Intn(2) == 0 {
		s.Put(k, r.Intn(1000))
	} else {
		s.Delete(k)
	}
}

// P9.10: in steps, so many keys at a time by the last key, with writes between, and by one loop with writes in its body.
func TestHeldInSteps(t *testing.T) {
	for seed := range int64(200) {
		r := rand.New(rand.NewSource(seed))
		keys := someKeys(r)
		s := zigzag.New[int]()
		for range 4 {
			for range r.Intn(40) {
				write(s, r, keys)
			}
			had := above(pairs(s.Range("", "")), "")
			s.Mark()
			var got []pair
			last, size := "", 1+r.Intn(3)
			for {
				n := 0
				for k, v := range s.Snapshot(last) {
					got = append(got, pair{k, v})
					last = k
					if n++; n == size {
						break
					}
				}
				if n == 0 {
					break
				}
				for range r.Intn(10) {
					write(s, r, keys)
				}
			}
			if !slices.Equal(got, had) {
				t.Fatalf("P9.10: seed %d: %v, not %v", seed, got, had)
			}
			got = nil
			for k, v := range s.Snapshot("") {
				got = append(got, pair{k, v})
				for range r.Intn(10) {
					write(s, r, append(keys, k))
				}
			}
			if !slices.Equal(got, had) {
				t.Fatalf("P9.10: seed %d: %v, not %v", seed, got, had)
			}
			s.Done()
		}
	}
}

// P9.11: the same calls on a store that is marked now and then and on one that never is.
func TestMarkChangesNothing(t *testing.T) {
	for seed := range int64(100) {
		r := rand.New(rand.NewSource(seed))
		keys := someKeys(r)
		often, never := zigzag.New[int](), zigzag.New[int]()
		for step := range 200 {
			one := r.Int63()
			write(often, rand.New(rand.NewSource(one)), keys)
			write(never, rand.New(rand.NewSource(one)), keys)
			switch r.Intn(6) {
			case 0:
				often.Mark()
			case 1:
				often.Done()
			}
			if never.Marked() || often.Len() != never.Len() {
				t.Fatalf("P9.11: seed %d, step %d: Len %d, not %d", seed, step, often.Len(), never.Len())
			}
			k, to := keys[r.Intn(len(keys))], keys[r.Intn(len(keys))]
			v, ok := often.Get(k)
			if w, is := never.Get(k); v != w || ok != is {
				t.Fatalf("P9.11: seed %d, step %d: Get(%q): %d, %v, not %d, %v", seed, step, k, v, ok, w, is)
			}
			n, ok := often.Next(k)
			if m, is := never.Next(k); n != m || ok != is {
				t.Fatalf("P9.11: seed %d, step %d: Next(%q): %q, not %q", seed, step, k, n, m)
			}
			if got, want := pairs(often.Range(k, to)), pairs(never.Range(k, to)); !slices.Equal(got, want) {
				t.Fatalf("P9.11: seed %d, step %d: Range(%q, %q): %v, not %v", seed, step, k, to, got, want)
			}
		}
	}
}

// P9.11: so too of loops whose bodies write, and mark one of the two stores.
func TestMarkChangesNoLoop(t *testing.T) {
	for seed := range int64(300) {
		keys := someKeys(rand.New(rand.NewSource(seed)))
		run := func(marks bool) []string {
			var told []string
			s := zigzag.New[int]()
			r, m := rand.New(rand.NewSource(seed)), rand.New(rand.NewSource(seed+1))
			turn := func() {
				if n := m.Intn(3); marks && n == 0 {
					s.Mark()
				} else if marks && n == 1 {
					s.Done()
				}
			}
			for range 8 {
				for range r.Intn(12) {
					write(s, r, keys)
					turn()
				}
				for k, v := range s.Range(keys[r.Intn(len(keys))], "") {
					told = append(told, fmt.Sprintf("%q %d", k, v))
					turn()
					write(s, r, append(keys, k))
					turn()
				}
			}
			return told
		}
		if got, want := run(true), run(false); !slices.Equal(got, want) {
			t.Fatalf("P9.11: seed %d: %v, not %v", seed, got, want)
		}
	}
}

// P9.12: what each slot has at each moment: something to be read while the store is not marked; and while it is,
// the value of the mark in the copy that is not Write, or nothing there, whatever is put and deleted.
func TestWhatSlotsHave(t *testing.T) {
	for seed := range int64(100) {
		r := rand.New(rand.NewSource(seed))
		keys := someKeys(r)
		s, had := zigzag.New[int](), map[string]int{}
		for step := range 300 {
			switch r.Intn(20) {
			case 0:
				if s.Mark() == api.OK {
					had = map[string]int{}
					for k, v := range s.Range("", "") {
						had[k] = v
					}
				}
			case 1:
				s.Done()
			default:
				write(s, r, keys)
			}
			for _, k := range keys {
				x, is := s.Slot(k)
				if !s.Marked() {
					if is && !x.Has[x.Read] {
						t.Fatalf("P9.12: seed %d, step %d: %q has nothing to be read: %v", seed, step, k, x)
					}
					continue
				}
				v, was := had[k]
				if bit := 1 - x.Write; was && !is || is && (x.Has[bit] != was || x.Copies[bit] != v) {
					t.Fatalf("P9.12: seed %d, step %d: %q had %d, %v: %v, %v", seed, step, k, v, was, x, is)
				}
			}
		}
	}
}

// P9.12: a Put and a Delete touch neither the copy that is not Write, nor Write, nor another key's slot, marked or not.
func TestNotTouched(t *testing.T) {
	for seed := range int64(100) {
		r := rand.New(rand.NewSource(seed))
		keys := slices.Compact(slices.Sorted(slices.Values(someKeys(r))))
		s := zigzag.New[int]()
		for range 200 {
			was := map[string]api.Slot[int]{}
			for _, k := range keys {
				if x, is := s.Slot(k); is {
					was[k] = x
				}
			}
			at := keys[r.Intn(len(keys))]
			if r.Intn(12) == 0 {
				s.Mark()
				continue
			} else if r.Intn(12) == 0 {
				s.Done()
				continue
			}
			write(s, r, []string{at})
			for _, k := range keys {
				x, is := s.Slot(k)
				old, had := was[k]
				if bit := 1 - old.Write; had && is && (x.Write != old.Write || x.Has[bit] != old.Has[bit] || x.Copies[bit] != old.Copies[bit]) {
					t.Fatalf("P9.12: %q was %v and is %v", k, old, x)
				}
				if k != at && (x != old || is != had) {
					t.Fatalf("P9.4: %q was %v and is %v, when %q was written", k, old, x, at)
				}
			}
		}
	}
}
