package zigzag_test

import (
	"fmt"
	"iter"
	"slices"
	"strconv"
	"strings"
	"testing"

	"treadle/api"
	"treadle/zigzag"
)

// store is what a store answers to, so that the same calls can be made on one and on the slow one.
type store interface {
	Get(key string) (int, bool)
	Put(key string, v int)
	Delete(key string)
	Len() int
	Next(above string) (string, bool)
	Range(from, to string) iter.Seq2[string, int]
	Mark() api.Errno
	Marked() bool
	Snapshot(above string) iter.Seq2[string, int]
	Done() api.Errno
	Slot(key string) (api.Slot[int], bool)
}

// slow is a store by the chapter's words: slots in the order in which they came, all of them looked at for each question.
type slow struct {
	keys   []string
	slots  []api.Slot[int]
	marked bool
}

func (s *slow) place(key string) int { return slices.Index(s.keys, key) }

func (s *slow) goes(gone func(api.Slot[int]) bool) {
	for i := len(s.keys) - 1; i >= 0; i-- {
		if gone(s.slots[i]) {
			s.keys = slices.Delete(s.keys, i, i+1)
			s.slots = slices.Delete(s.slots, i, i+1)
		}
	}
}

func nothingToRead(x api.Slot[int]) bool { return !x.Has[x.Read] }

func (s *slow) Get(key string) (int, bool) {
	i := s.place(key)
	if i < 0 || nothingToRead(s.slots[i]) {
		return 0, false
	}
	return s.slots[i].Copies[s.slots[i].Read], true
}

func (s *slow) Put(key string, v int) {
	if s.place(key) < 0 {
		s.keys = append(s.keys, key)
		s.slots = append(s.slots, api.Slot[int]{Read: 0, Write: 1})
	}
	x := &s.slots[s.place(key)]
	x.Copies[x.Write] = v
	x.Has[x.Write] = true
	x.Read = x.Write
}

func (s *slow) Delete(key string) {
	if _, has := s.Get(key); !has {
		return
	}
	i := s.place(key)
	x := &s.slots[i]
	x.Copies[x.Write] = 0
	x.Has[x.Write] = false
	x.Read = x.Write
	if !s.marked {
		s.keys = slices.Delete(s.keys, i, i+1)
		s.slots = slices.Delete(s.slots, i, i+1)
	}
}

func (s *slow) Len() int {
	n := 0
	for _, x := range s.slots {
		if x.Has[x.Read] {
			n++
		}
	}
	return n
}

// ahead tells whether one text is ahead of another, byte by byte, a text ahead of what it is the beginning of.
func ahead(a, b string) bool {
	for i := 0; i < len(a) && i < len(b); i++ {
		if a[i] != b[i] {
			return a[i] < b[i]
		}
	}
	return len(a) < len(b)
}

// least is the least key of which a question holds.
func (s *slow) least(asked func(string, api.Slot[int]) bool) (string, bool) {
	found, ok := "", false
	for i, k := range s.keys {
		if asked(k, s.slots[i]) && (!ok || ahead(k, found)) {
			found, ok = k, true
		}
	}
	return found, ok
}

func (s *slow) Next(above string) (string, bool) {
	return s.least(func(k string, x api.Slot[int]) bool { return ahead(above, k) && !nothingToRead(x) })
}

func (s *slow) Range(from, to string) iter.Seq2[string, int] {
	return func(yield func(string, int) bool) {
		k, ok := s.least(func(k string, x api.Slot[int]) bool { return !ahead(k, from) && !nothingToRead(x) })
		for ok && (to == "" || !ahead(to, k)) {
			v, _ := s.Get(k)
			if !yield(k, v) {
				return
			}
			k, ok = s.Next(k)
		}
	}
}

func (s *slow) Mark() api.Errno {
	if s.marked {
		return api.ErrBusy
	}
	s.goes(nothingToRead)
	for i := range s.slots {
		s.slots[i].Write = []int{1, 0}[s.slots[i].Read]
	}
	s.marked = true
	return api.OK
}

func (s *slow) Marked() bool { return s.marked }

func (s *slow) Snapshot(above string) iter.Seq2[string, int] {
	return func(yield func(string, int) bool) {
		last := above
		for s.marked {
			k, ok := s.least(func(k string, x api.Slot[int]) bool { return ahead(last, k) && x.Has[[]int{1, 0}[x.Write]] })
			if !ok {
				return
			}
			x := s.slots[s.place(k)]
			if !yield(k, x.Copies[[]int{1, 0}[x.Write]]) {
				return
			}
			last = k
		}
	}
}

func (s *slow) Done() api.Errno {
	if !s.marked {
		return api.ErrIdle
	}
	s.marked = false
	s.goes(nothingToRead)
	return api.OK
}

func (s *slow) Slot(key string) (api.Slot[int], bool) {
	if i := s.place(key); i >= 0 {
		return s.slots[i], true
	}
	return api.Slot[int]{}, false
}

// pair is a key and what it has.
type pair struct {
	key string
	has int
}

// pairs is what an iterator hands on.
func pairs(seq iter.Seq2[string, int]) []pair {
	var ps []pair
	for k, v := range seq {
		ps = append(ps, pair{k, v})
	}
	return ps
}

// said is the same as a text: "a1 b2", or "-" of nothing.
func said(seq iter.Seq2[string, int]) string {
	var told []string
	for k, v := range seq {
		told = append(told, k+strconv.Itoa(v))
	}
	if told == nil {
		return "-"
	}
	return strings.Join(told, " ")
}

// slotText is a slot as the chapter writes it, and whether the copies that are empty are zero.
func slotText(s store, key string) string {
	x, is := s.Slot(key)
	if !is {
		if x != (api.Slot[int]{}) {
			return fmt.Sprint("none, but not zero: ", x)
		}
		return "none"
	}
	var copies [2]string
	for i := range 2 {
		copies[i] = "-"
		if x.Has[i] {
			copies[i] = strconv.Itoa(x.Copies[i])
		} else if x.Copies[i] != 0 {
			return fmt.Sprint("empty, but not zero: ", x)
		}
	}
	return fmt.Sprintf("{%s %s, %d %d}", copies[0], copies[1], x.Read, x.Write)
}

// play makes calls written one behind the other: k=1 puts, k- deletes, M marks, D is done; ? stands for the key.
func play(s store, calls, key string) {
	for _, c := range strings.Fields(calls) {
		if c == "M" {
			s.Mark()
		} else if c == "D" {
			s.Done()
		} else if k, deletes := strings.CutSuffix(c, "-"); deletes {
			s.Delete(strings.ReplaceAll(k, "?", key))
		} else {
			k, digits, _ := strings.Cut(c, "=")
			v, _ := strconv.Atoi(digits)
			s.Put(strings.ReplaceAll(k, "?", key), v)
		}
	}
}

// played is a new store behind these calls.
func played(calls string) *zigzag.Store[int] {
	s := zigzag.New[int]()
	play(s, calls, "")
	return s
}

// same holds a store against the slow one, all that is seen from outside, at these keys.
func same(t *testing.T, s store, w *slow, keys []string) {
	t.Helper()
	if s.Len() != w.Len() || s.Marked() != w.Marked() {
		t.Fatalf("P9.2, P9.8: Len %d, Marked %v, not %d, %v", s.Len(), s.Marked(), w.Len(), w.Marked())
	}
	for _, k := range keys {
		v, ok := s.Get(k)
		if u, is := w.Get(k); v != u || ok != is {
			t.Fatalf("P9.2: Get(%q): %d, %v, not %d, %v", k, v, ok, u, is)
		}
		n, ok := s.Next(k)
		if m, is := w.Next(k); n != m || ok != is {
			t.Fatalf("P9.2: Next(%q): %q, %v, not %q, %v", k, n, ok, m, is)
		}
		if got, want := slotText(s, k), slotText(w, k); got != want {
			t.Fatalf("P9.8: Slot(%q): %s, not %s", k, got, want)
		}
		if got, want := pairs(s.Snapshot(k)), pairs(w.Snapshot(k)); !slices.Equal(got, want) {
			t.Fatalf("P9.6: Snapshot(%q): %v, not %v", k, got, want)
		}
		if got, want := pairs(s.Range(k, "")), pairs(w.Range(k, "")); !slices.Equal(got, want) {
			t.Fatalf("P9.2: Range(%q, ...): %v, not %v", k, got, want)
		}
	}
}

// oddKeys: the empty one, beginnings of others, bytes of any kind, texts that are no UTF-8.
var oddKeys = []string{
	"", "\x00", "\x00\x00", "\x00\x01", "\x01", "a", "a\x00", "a\x00b", "a\xff", "aa", "aaa", "ab", "b", "ba",
	"A", "~", "\x7f", "\x80", "é", "e\u0301", "\u2028", "\U0001f600", "\xc3", "\xfe", "\xff", "\xff\x00", "\xff\xff",
	strings.Repeat("k", 300), strings.Repeat("k", 300) + "a", strings.Repeat("k", 299) + "j", strings.Repeat("\x00", 70000), strings.Repeat("\x00", 70001),
}
