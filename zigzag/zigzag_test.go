package zigzag_test

import (
	"fmt"
	"math"
	"math/rand"
	"slices"
	"strings"
	"testing"

	"treadle/api"
	"treadle/zigzag"
)

// TestExamples: the chapter's table, row by row.
func TestExamples(t *testing.T) {
	s := zigzag.New[int]()
	is := func(got, want any) {
		t.Helper()
		if got != want {
			t.Errorf("%v, not %v", got, want)
		}
	}
	get := func(key string) string {
		v, has := s.Get(key)
		return fmt.Sprint(v, has)
	}
	is(get("a"), "0 false")
	s.Put("a", 1)
	is(get("a"), "1 true")
	is(slotText(s, "a"), "{- 1, 1 1}")
	s.Put("a", 2)
	is(slotText(s, "a"), "{- 2, 1 1}")
	is(s.Mark(), api.OK)
	is(slotText(s, "a"), "{- 2, 1 0}")
	is(s.Mark(), api.ErrBusy)
	s.Put("a", 3)
	is(slotText(s, "a"), "{3 2, 0 0}")
	s.Put("a", 4)
	is(said(s.Snapshot("")), "a2")
	s.Put("b", 9)
	is(slotText(s, "b"), "{- 9, 1 1}")
	s.Delete("a")
	is(slotText(s, "a"), "{- 2, 0 0}")
	is(s.Len(), 1)
	is(said(s.Snapshot("")), "a2")
	s.Put("a", 5)
	is(said(s.Snapshot("")), "a2")
	is(said(s.Snapshot("a")), "-")
	s.Delete("b")
	is(slotText(s, "b"), "{- -, 1 1}")
	is(s.Done(), api.OK)
	is(slotText(s, "b"), "none")
	is(slotText(s, "a"), "{5 2, 0 0}")
	is(s.Done(), api.ErrIdle)
	s.Put("a", 6)
	s.Delete("a")
	is(slotText(s, "a"), "none")
}

// P9.1: a new store has no slot and is not marked; each is an object of its own.
func TestNew(t *testing.T) {
	s := zigzag.New[int]()
	same(t, s, &slow{}, oddKeys)
	if e := s.Done(); e != api.ErrIdle {
		t.Errorf("P9.7: Done of a new one: %v", e)
	}
	s.Delete("")
	same(t, s, &slow{}, oddKeys)
	s.Put("a", 1)
	s.Mark()
	same(t, zigzag.New[int](), &slow{}, oddKeys)
}

// P9.1: a zero store is used like any, whatever the first call is.
func TestZero(t *testing.T) {
	firsts := []func(s store){
		func(s store) {},
		func(s store) { s.Get("a") },
		func(s store) { s.Put("", 7) },
		func(s store) { s.Put("a", 7) },
		func(s store) { s.Delete("a") },
		func(s store) { s.Len() },
		func(s store) { s.Next("") },
		func(s store) { pairs(s.Range("", "")) },
		func(s store) { s.Mark() },
		func(s store) { s.Marked() },
		func(s store) { pairs(s.Snapshot("")) },
		func(s store) { s.Done() },
		func(s store) { s.Slot("a") },
	}
	for _, first := range firsts {
		for _, s := range []*zigzag.Store[int]{{}, zigzag.New[int]()} {
			w := &slow{}
			for _, call := range append([]func(store){first}, firsts...) {
				call(s)
				call(w)
				same(t, s, w, oddKeys)
			}
		}
	}
}

// P9.1, W7: iterators that were given before the first key came see it.
func TestZeroIterators(t *testing.T) {
	for _, s := range []*zigzag.Store[int]{{}, zigzag.New[int]()} {
		all, held := s.Range("", ""), s.Snapshot("")
		play(s, "b=2 a=1 M b=3 c=4", "")
		if got, kept := said(all), said(held); got != "a1 b3 c4" || kept != "a1 b2" {
			t.Errorf("P9.2, P9.6: %s; %s", got, kept)
		}
	}
}

// P9.9, W8: nothing happens to a nil store.
func TestNil(t *testing.T) {
	var s *zigzag.Store[int]
	var other *zigzag.Store[*pair]
	for range 2 {
		for _, k := range oddKeys {
			s.Put(k, 1)
			other.Put(k, &pair{})
			if v, ok := s.Get(k); v != 0 || ok {
				t.Errorf("P9.9: Get: %d, %v", v, ok)
			}
			if v, ok := other.Get(k); v != nil || ok {
				t.Errorf("P9.9: Get: %v, %v", v, ok)
			}
			if n, ok := s.Next(k); n != "" || ok {
				t.Errorf("P9.9: Next: %q, %v", n, ok)
			}
			if x, ok := s.Slot(k); x != (api.Slot[int]{}) || ok {
				t.Errorf("P9.9: Slot: %v, %v", x, ok)
			}
			for _, seq := range []func(func(string, int) bool){s.Range(k, ""), s.Range("", k), s.Range(k, k), s.Snapshot(k)} {
				if seq == nil {
					t.Fatal("W8: a nil iterator")
				}
				if got := said(seq) + said(seq); got != "--" {
					t.Errorf("P9.9: %s", got)
				}
			}
			s.Delete(k)
			other.Delete(k)
		}
		if s.Len() != 0 || s.Marked() || other.Len() != 0 || other.Marked() {
			t.Error("P9.9: Len, Marked")
		}
		if a, b := s.Mark(), other.Mark(); a != api.ErrArg || b != api.ErrArg {
			t.Errorf("P9.9: Mark: %v, %v", a, b)
		}
		if a, b := s.Done(), other.Done(); a != api.ErrArg || b != api.ErrArg {
			t.Errorf("P9.9: Done: %v, %v", a, b)
		}
	}
}

// P9.3, P9.4, P9.5, P9.7: what a slot is behind calls, the last of which is what each row is about. ? is the key.
var slotRows = []struct{ calls, slot, has string }{
	{"", "none", "-"},
	{"?-", "none", "-"},
	{"?=1", "{- 1, 1 1}", "1"},
	{"?=0", "{- 0, 1 1}", "0"},
	{"?=1 ?=2", "{- 2, 1 1}", "2"},
	{"?=1 ?-", "none", "-"},
	{"?=1 ?- ?-", "none", "-"},
	{"?=1 ?- ?=3", "{- 3, 1 1}", "3"},
	{"?=1 D", "{- 1, 1 1}", "1"},
	{"M", "none", "-"},
	{"M ?-", "none", "-"},
	{"M ?=1", "{- 1, 1 1}", "1"},
	{"M ?=0", "{- 0, 1 1}", "0"},
	{"M ?=1 ?=2", "{- 2, 1 1}", "2"},
	{"M ?=1 M", "{- 1, 1 1}", "1"},
	{"M ?=1 ?-", "{- -, 1 1}", "-"},
	{"M ?=1 ?- M", "{- -, 1 1}", "-"},
	{"M ?=1 ?- ?-", "{- -, 1 1}", "-"},
	{"M ?=1 ?- ?=3", "{- 3, 1 1}", "3"},
	{"M ?=1 D", "{- 1, 1 1}", "1"},
	{"M ?=1 D ?=2", "{- 2, 1 1}", "2"},
	{"M ?=1 D ?-", "none", "-"},
	{"M ?=1 D M", "{- 1, 1 0}", "1"},
	{"M ?=1 ?- D", "none", "-"},
	{"M ?=1 ?- D ?=2", "{- 2, 1 1}", "2"},
	{"M ?=1 ?- D M", "none", "-"},
	{"M ?=1 ?- ?=3 D", "{- 3, 1 1}", "3"},
	{"?=1 M", "{- 1, 1 0}", "1"},
	{"?=0 M", "{- 0, 1 0}", "0"},
	{"?=1 M M", "{- 1, 1 0}", "1"},
	{"?=1 M ?=2", "{2 1, 0 0}", "2"},
	{"?=1 M ?=0", "{0 1, 0 0}", "0"},
	{"?=1 M ?=2 M", "{2 1, 0 0}", "2"},
	{"?=1 M ?=2 ?=3", "{3 1, 0 0}", "3"},
	{"?=1 M ?-", "{- 1, 0 0}", "-"},
	{"?=1 M ?- M", "{- 1, 0 0}", "-"},
	{"?=1 M ?- ?-", "{- 1, 0 0}", "-"},
	{"?=1 M ?- ?=4", "{4 1, 0 0}", "4"},
	{"?=1 M ?=2 ?-", "{- 1, 0 0}", "-"},
	{"?=1 M ?=2 ?- ?=4", "{4 1, 0 0}", "4"},
	{"?=1 M D", "{- 1, 1 0}", "1"},
	{"?=1 M D D", "{- 1, 1 0}", "1"},
	{"?=1 M D ?=2", "{2 1, 0 0}", "2"},
	{"?=1 M D ?=2 ?=3", "{3 1, 0 0}", "3"},
	{"?=1 M D ?-", "none", "-"},
	{"?=1 M D ?=2 ?-", "none", "-"},
	{"?=1 M D M", "{- 1, 1 0}", "1"},
	{"?=1 M D ?=2 M", "{2 1, 0 1}", "2"},
	{"?=1 M ?=2 D", "{2 1, 0 0}", "2"},
	{"?=1 M ?=2 D ?=3", "{3 1, 0 0}", "3"},
	{"?=1 M ?=2 D ?-", "none", "-"},
	{"?=1 M ?=2 D M", "{2 1, 0 1}", "2"},
	{"?=1 M ?=2 D M ?=3", "{2 3, 1 1}", "3"},
	{"?=1 M ?=2 D M ?-", "{2 -, 1 1}", "-"},
	{"?=1 M ?=2 D M ?- D", "none", "-"},
	{"?=1 M ?=2 D M ?- ?=5", "{2 5, 1 1}", "5"},
	{"?=1 M ?=2 D M ?- ?=5 D", "{2 5, 1 1}", "5"},
	{"?=1 M ?=2 D M ?=3 D M", "{2 3, 1 0}", "3"},
	{"?=1 M ?- D", "none", "-"},
	{"?=1 M ?- D ?-", "none", "-"},
	{"?=1 M ?- D M", "none", "-"},
	{"?=1 M ?- D ?=2", "{- 2, 1 1}", "2"},
	{"?=1 M ?- D ?=2 M", "{- 2, 1 0}", "2"},
	{"?=1 M ?- ?=4 D M", "{4 1, 0 1}", "4"},
}

// P9.3, P9.4, P9.5, P9.7: each row at each odd key, alone and beside others, which are as they were.
func TestSlots(t *testing.T) {
	for _, row := range slotRows {
		for _, key := range oddKeys {
			for _, beside := range []string{"", "?x=70 ?y=71"} {
				s := zigzag.New[int]()
				play(s, beside+" "+row.calls, key)
				if got := slotText(s, key); got != row.slot {
					t.Fatalf("%s, %q beside %q: %s, not %s", row.calls, key, beside, got, row.slot)
				}
				v, ok := s.Get(key)
				if got := fmt.Sprint(v); ok != (row.has != "-") || ok && got != row.has || !ok && v != 0 {
					t.Fatalf("P9.2: %s: Get(%q): %d, %v", row.calls, key, v, ok)
				}
				want := len(strings.Fields(beside))
				if ok {
					want++
				}
				if s.Len() != want {
					t.Fatalf("P9.2: %s beside %q: Len %d, not %d", row.calls, beside, s.Len(), want)
				}
				w := &slow{}
				play(w, beside+" "+row.calls, key)
				same(t, s, w, []string{key, key + "x", key + "y"})
			}
		}
	}
}

// P9.5, P9.7, P9.8: Mark, Done and Marked in every order, with something in the store and without.
func TestMarkDone(t *testing.T) {
	for _, calls := range []string{"", "a=1", "a=1 =2 b=3"} {
		for order := range 1 << 8 {
			s, marked := played(calls), false
			for i := range 8 {
				var got, want api.Errno
				if order>>i&1 == 0 {
					got = s.Mark()
					if marked {
						want = api.ErrBusy
					}
					marked = true
				} else {
					got = s.Done()
					if !marked {
						want = api.ErrIdle
					}
					marked = false
				}
				if got != want || s.Marked() != marked {
					t.Fatalf("P9.5, P9.7: order %b, call %d: %v, %v, not %v, %v", order, i, got, s.Marked(), want, marked)
				}
			}
		}
	}
}

// P9.5, P9.7, W3: a Mark and a Done that are refused change nothing.
func TestRefused(t *testing.T) {
	keys := []string{"", "a", "b", "c", "d"}
	for _, calls := range []string{"", "a=1 b=2", "a=1 b=2 M", "a=1 b=2 M a- b=3 c=4 d=5 d-", "a=1 b=2 M a- b=3 c=4 D"} {
		s, w := played(calls), &slow{}
		play(w, calls, "")
		e, want := s.Mark, api.ErrBusy
		if !s.Marked() {
			e, want = s.Done, api.ErrIdle
		}
		for range 3 {
			if got := e(); got != want {
				t.Errorf("W3: %s: %v, not %v", calls, got, want)
			}
			same(t, s, w, keys)
		}
	}
}

// P9.5, P9.7: which slots go at a Done, of many.
func TestWhichGo(t *testing.T) {
	s := played("=1 a=1 b=1 c=1 d=1 e=1 M - a- c=2 d- d=3 e=4 e- f=5 g=6 g- h=7 h- h=8")
	is := func(when, want string) {
		t.Helper()
		var told []string
		for _, k := range strings.Split(" a b c d e f g h i", " ") {
			told = append(told, k+slotText(s, k))
		}
		if got := strings.Join(told, " "); got != want {
			t.Errorf("%s: %s, not %s", when, got, want)
		}
	}
	is("P9.4", "{- 1, 0 0} a{- 1, 0 0} b{- 1, 1 0} c{2 1, 0 0} d{3 1, 0 0} e{- 1, 0 0} f{- 5, 1 1} g{- -, 1 1} h{- 8, 1 1} inone")
	s.Done()
	is("P9.7", "none anone b{- 1, 1 0} c{2 1, 0 0} d{3 1, 0 0} enone f{- 5, 1 1} gnone h{- 8, 1 1} inone")
	s.Mark()
	is("P9.5", "none anone b{- 1, 1 0} c{2 1, 0 1} d{3 1, 0 1} enone f{- 5, 1 0} gnone h{- 8, 1 0} inone")
}

// everyRow calls back with each row of so many of these calls.
func everyRow(calls []string, length int, each func(string)) {
	row := make([]string, length)
	var lay func(i int)
	lay = func(i int) {
		if i == length {
			each(strings.Join(row, " "))
			return
		}
		for _, c := range calls {
			row[i] = c
			lay(i + 1)
		}
	}
	lay(0)
}

// P9.2 to P9.8: every row of seven calls at one key, and of five at two of which one begins the other, against the chapter's words.
func TestEveryRow(t *testing.T) {
	for _, c := range []struct {
		calls  string
		length int
		keys   []string
	}{
		{"a=1 a=0 a- M D", 6, []string{"", "a", "b"}},
		{"a=1 a- M D", 7, []string{"a"}},
		{"=1 - a=2 a- M D", 5, []string{"", "a"}},
		{"a=1 a- ab=2 ab- M D", 5, []string{"a", "aa", "ab"}},
	} {
		everyRow(strings.Fields(c.calls), c.length, func(row string) {
			s, w := played(row), &slow{}
			play(w, row, "")
			same(t, s, w, c.keys)
			if t.Failed() {
				t.Fatal(row)
			}
		})
	}
}

// P9.2: Get, Len and Next at keys that have something, keys whose slot has nothing to be read, and keys without a slot.
func TestReadWhileMarked(t *testing.T) {
	s := played("=1 a=2 aa=3 b=4 d=5 M a- b=6 b- c=7 c- d=8 e=9 -")
	if s.Len() != 3 {
		t.Errorf("P9.2: Len %d", s.Len())
	}
	for _, c := range []struct {
		key  string
		has  int
		is   bool
		next string
	}{
		{"", 0, false, "aa"},
		{"\x00", 0, false, "aa"},
		{"a", 0, false, "aa"},
		{"a\x00", 0, false, "aa"},
		{"aa", 3, true, "d"},
		{"aaa", 0, false, "d"},
		{"b", 0, false, "d"},
		{"c", 0, false, "d"},
		{"d", 8, true, "e"},
		{"d\x00", 0, false, "e"},
		{"e", 9, true, ""},
		{"f", 0, false, ""},
		{"\xff", 0, false, ""},
	} {
		if v, ok := s.Get(c.key); v != c.has || ok != c.is {
			t.Errorf("P9.2: Get(%q): %d, %v", c.key, v, ok)
		}
		if k, ok := s.Next(c.key); k != c.next || ok != (c.next != "") {
			t.Errorf("P9.2: Next(%q): %q, %v", c.key, k, ok)
		}
	}
	if k, ok := played("=1").Next(""); k != "" || ok {
		t.Errorf("P9.2: Next of the empty key alone: %q, %v", k, ok)
	}
}

// doRandom makes one call that chance picks, at one of these keys, and tells what it answered.
func doRandom(s store, r *rand.Rand, keys []string) string {
	k := keys[r.Intn(len(keys))]
	switch n := r.Intn(20); {
	case n < 8:
		v := r.Intn(5)
		s.Put(k, v)
		return fmt.Sprintf("%q = %d", k, v)
	case n < 15:
		s.Delete(k)
		return fmt.Sprintf("%q gone", k)
	case n < 17:
		return fmt.Sprint("Mark ", s.Mark())
	case n < 19:
		return fmt.Sprint("Done ", s.Done())
	}
	v, ok := s.Get(k)
	return fmt.Sprint("Get ", v, ok)
}

// someKeys is some keys, short ones that begin each other or odd ones; without spare room, so that a list led on is another one.
func someKeys(r *rand.Rand) []string {
	if r.Intn(3) == 0 {
		return slices.Clip(oddKeys[:len(oddKeys)-5])
	}
	var keys []string
	for range 1 + r.Intn(15) {
		keys = append(keys, string([]byte{byte(r.Intn(3)), byte(r.Intn(3)), byte(r.Intn(3))}[:r.Intn(4)]))
	}
	return slices.Clip(keys)
}

// P9.2 to P9.8: rows of calls at random, held call by call against the chapter's words.
func TestAgainstWords(t *testing.T) {
	for seed := range int64(150) {
		keys := someKeys(rand.New(rand.NewSource(seed)))
		s, w := &zigzag.Store[int]{}, &slow{}
		one, two := rand.New(rand.NewSource(seed)), rand.New(rand.NewSource(seed))
		for step := range 200 {
			if got, want := doRandom(s, one, keys), doRandom(w, two, keys); got != want {
				t.Fatalf("seed %d: %s, not %s", seed, got, want)
			}
			if step%10 == 0 {
				same(t, s, w, keys)
			}
		}
	}
}

// P9.1: stores written to and marked by turns, of one type and of another, each answer as if they were alone.
func TestApart(t *testing.T) {
	r := rand.New(rand.NewSource(91))
	ss := []*zigzag.Store[int]{zigzag.New[int](), zigzag.New[int](), {}}
	ws := []*slow{{}, {}, {}}
	other := zigzag.New[string]()
	keys := strings.Split(" a b c d e f g h", " ")
	for step := range 3000 {
		i, seed := r.Intn(3), r.Int63()
		got := doRandom(ss[i], rand.New(rand.NewSource(seed)), keys)
		if want := doRandom(ws[i], rand.New(rand.NewSource(seed)), keys); got != want {
			t.Fatalf("P9.1: %s, not %s", got, want)
		}
		if step == 1500 {
			other.Put("a", "x")
			other.Mark()
			other.Delete("a")
		}
		if step%10 == 0 {
			for i, s := range ss {
				same(t, s, ws[i], keys)
			}
		}
	}
	x, is := other.Slot("a")
	if want := (api.Slot[string]{Copies: [2]string{"", "x"}, Has: [2]bool{false, true}}); x != want || !is {
		t.Errorf("P9.1: %v, %v", x, is)
	}
}

// W8: a store that was copied as a value is used on as the copy.
func TestCopied(t *testing.T) {
	for _, calls := range []string{"", "a=1 b=2", "a=1 b=2 M", "a=1 b=2 M a- b=3 c=4"} {
		was, w := played(calls), &slow{}
		play(w, calls, "")
		s := *was
		for _, more := range []string{"a=5 d=6", "M", "b- d-", "D", "c=8"} {
			play(&s, more, "")
			play(w, more, "")
			same(t, &s, w, []string{"", "a", "b", "c", "d"})
		}
	}
}

// P9.2, P9.5, W1: many keys, marked, all deleted, gone through and let go in little time.
func TestMany(t *testing.T) {
	const many = 50000
	name := func(i int) string { return fmt.Sprintf("%06d", i) }
	s := zigzag.New[int]()
	for i := range many {
		s.Put(name(i), i)
	}
	s.Mark()
	for i := range many {
		s.Delete(name(i))
		s.Put("x"+name(i), i)
	}
	n := 0
	for k, v := range s.Snapshot("") {
		if k != name(n) || v != n {
			t.Fatalf("P9.10: %q %d, not %d", k, v, n)
		}
		n++
	}
	if n != many || s.Len() != many {
		t.Fatalf("P9.10: %d, %d", n, s.Len())
	}
	s.Done()
	for k, v := range s.Range("", "") {
		if k != "x"+name(many-n) || v != many-n {
			t.Fatalf("P9.2: %q %d", k, v)
		}
		n--
	}
	if n != 0 {
		t.Fatalf("P9.2: %d are missing", n)
	}
}

// holdsOnto: a store of some type answers what was put, as it was put, out of each of its calls, marked and not; and zero values where nothing is.
func holdsOnto[V any](t *testing.T, equal func(a, b V) bool, values ...V) {
	t.Helper()
	zero := *new(V)
	is := func(where string, got, want V, ok, wanted bool) {
		t.Helper()
		if ok != wanted || !equal(got, want) {
			t.Errorf("P9.9: %s of %T: %v, %v, not %v, %v", where, want, got, ok, want, wanted)
		}
	}
	s := zigzag.New[V]()
	for i, v := range values {
		was := values[max(i-1, 0)]
		s.Put("k", was)
		s.Mark()
		s.Put("k", v)
		got, ok := s.Get("k")
		is("Get", got, v, ok, true)
		for _, got := range s.Range("", "") {
			is("Range", got, v, true, true)
		}
		for _, got := range s.Snapshot("") {
			is("Snapshot", got, was, true, true)
		}
		x, ok := s.Slot("k")
		is("Slot", x.Copies[x.Read], v, ok && x.Has[x.Read], true)
		is("Slot", x.Copies[1-x.Write], was, ok && x.Has[1-x.Write], true)
		s.Delete("k")
		got, ok = s.Get("k")
		is("Get", got, zero, ok, false)
		x, ok = s.Slot("k")
		is("Slot", x.Copies[x.Read], zero, !ok || x.Has[x.Read], false)
		is("Slot", x.Copies[1-x.Write], was, ok && x.Has[1-x.Write], true)
		s.Put("k", v)
		s.Done()
		got, ok = s.Get("k")
		is("Get", got, v, ok, true)
		s.Delete("k")
		got, ok = s.Get("k")
		is("Get", got, zero, ok, false)
		x, ok = s.Slot("k")
		is("Slot", x.Copies[0], zero, ok || x.Has[0], false)
		is("Slot", x.Copies[1], zero, ok || x.Has[1], false)
	}
}

func alike[V comparable](a, b V) bool { return a == b }

// P9.9, W6: values of several types; pointers, lists and maps are the very ones that were handed in.
func TestTypes(t *testing.T) {
	type things struct {
		name string
		at   *int
		row  [3]uint8
	}
	n := 5
	holdsOnto(t, alike, 0, 1, 0, -1)
	holdsOnto(t, alike, "", "a", "\x00")
	holdsOnto(t, alike, false, true, false)
	holdsOnto(t, alike, struct{}{}, struct{}{})
	holdsOnto(t, alike, [2]string{"a"}, [2]string{"", "b"}, [2]string{})
	holdsOnto(t, alike, things{}, things{"a", &n, [3]uint8{1}}, things{"", new(int), [3]uint8{}})
	holdsOnto(t, alike, new(int), &n, nil, new(int))
	holdsOnto(t, alike, any(nil), any(1), any("x"), any(&n), any(nil))
	holdsOnto(t, alike, error(nil), fmt.Errorf("a"), nil)
	holdsOnto(t, alike, zigzag.New[int](), nil, zigzag.New[int]())
	holdsOnto(t, alike, api.Value{}, api.Value{Kind: api.KindInt, Int: 7}, api.Value{Kind: api.KindText, Text: "keel"})
	holdsOnto(t, func(a, b api.Proc) bool {
		return a.Name == b.Name && a.Args == b.Args && sameList(a.Code, b.Code)
	}, api.Proc{}, api.Proc{Name: "p", Args: 1, Code: []api.Instr{{Op: api.OpStop}}}, api.Proc{Name: "q", Code: []api.Instr{}})
	holdsOnto(t, func(a, b float64) bool { return math.Float64bits(a) == math.Float64bits(b) }, math.NaN(), math.Copysign(0, -1), 0)
	row := []int{1, 2, 3}
	holdsOnto(t, sameList, nil, row, row[:1], row[1:1:2], []int{})
	holdsOnto(t, func(a, b map[string]int) bool { return fmt.Sprintf("%p", a) == fmt.Sprintf("%p", b) }, nil, map[string]int{}, map[string]int{})
	c := 0
	holdsOnto(t, func(a, b func()) bool {
		was := c
		if a != nil {
			a()
		}
		return (a == nil) == (b == nil) && (a == nil || c == was+1)
	}, nil, func() { c++ })
}

// P9.9: a thing whose type cannot be held against others, or never is itself, does not stop a store.
func TestOddValues(t *testing.T) {
	s := zigzag.New[any]()
	for i, v := range []any{[]int{1}, map[int]int{}, func() {}, math.NaN(), nil} {
		s.Put("k", v)
		s.Put("k", v)
		if i%2 == 0 {
			s.Mark()
			s.Put("k", v)
		}
		s.Delete("k")
		s.Done()
	}
	if s.Len() != 0 || s.Marked() {
		t.Error("P9.9")
	}
}

// P9.3, P9.12: of each row of calls the slots of all keys in the end, told out for two keys.
func TestTwoKeys(t *testing.T) {
	for _, c := range []struct{ calls, a, b string }{
		{"a=1 M b=2", "{- 1, 1 0}", "{- 2, 1 1}"},
		{"a=1 M b=2 a=3", "{3 1, 0 0}", "{- 2, 1 1}"},
		{"a=1 M b=2 D", "{- 1, 1 0}", "{- 2, 1 1}"},
		{"a=1 M b=2 D M", "{- 1, 1 0}", "{- 2, 1 0}"},
		{"a=1 M b=2 a=3 D M b=4", "{3 1, 0 1}", "{4 2, 0 0}"},
		{"a=1 M b=2 a=3 D M b- a-", "{3 -, 1 1}", "{- 2, 0 0}"},
		{"a=1 M b=2 a=3 D M b- a- D", "none", "none"},
		{"a=1 b=1 M a- D b=2", "none", "{2 1, 0 0}"},
	} {
		s := played(c.calls)
		if a, b := slotText(s, "a"), slotText(s, "b"); a != c.a || b != c.b {
			t.Errorf("P9.3: %s: %s and %s, not %s and %s", c.calls, a, b, c.a, c.b)
		}
	}
}

// sameList tells whether two lists are one: the same memory, the same length and room.
func sameList[E any](a, b []E) bool {
	if len(a) != len(b) || cap(a) != cap(b) || (a == nil) != (b == nil) {
		return false
	}
	return cap(a) == 0 || &a[:1][0] == &b[:1][0]
}

// W6: what a pointer or a list points to is neither copied nor written to: who writes there is seen by who asks.
func TestValuesAsTheyAre(t *testing.T) {
	s := zigzag.New[[]int]()
	row := make([]int, 1, 4)
	s.Put("a", row[:1])
	s.Mark()
	row[0] = 7
	got, _ := s.Get("a")
	if got[0] != 7 || cap(got) != 4 {
		t.Errorf("W6: %v", got)
	}
	s.Put("a", nil)
	got[0] = 8
	for _, v := range s.Snapshot("") {
		if v[0] != 8 || cap(v) != 4 {
			t.Errorf("W6: %v", v)
		}
		v[0] = 9
	}
	s.Delete("a")
	x, _ := s.Slot("a")
	if want := []int{9, 0, 0, 0}; !slices.Equal(row[:4], want) || !sameList(x.Copies[1], row) {
		t.Errorf("W6: %v", row[:4])
	}
}

// W6: a slot that is answered is one's own: who writes into it changes nothing in the store, nor in another answer.
func TestSlotOwn(t *testing.T) {
	s := played("a=1 M a=2")
	one, _ := s.Slot("a")
	two, _ := s.Slot("a")
	one.Copies, one.Has, one.Read, one.Write = [2]int{8, 9}, [2]bool{}, 1, 1
	if got := slotText(s, "a"); got != "{2 1, 0 0}" || two.Copies != [2]int{2, 1} {
		t.Errorf("W6: %s, %v", got, two)
	}
	s.Put("a", 5)
	s.Done()
	if two.Copies != [2]int{2, 1} || two.Has != [2]bool{true, true} {
		t.Errorf("W6: %v", two)
	}
}
