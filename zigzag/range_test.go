package zigzag_test

import (
	"fmt"
	"iter"
	"math/rand"
	"slices"
	"strings"
	"testing"

	"treadle/api"
	"treadle/zigzag"
)

// P9.2: from and to of every kind and order, of stores marked and not, against the chapter's words.
func TestRange(t *testing.T) {
	for _, calls := range []string{
		"",
		"M",
		"=1",
		"=1 M -",
		"b=1 bb=2 d=3",
		"b=1 bb=2 d=3 M",
		"b=1 bb=2 d=3 M b- bb=4 f=5",
		"b=1 =9 d=3 M d- bb=2 b=6 - f=5 f- =8",
		"=1 a=2 b=3 bb=4 c=5 M a- b- bb- c- D",
		"=1 a=2 b=3 bb=4 c=5 M - a- b- bb- c-",
	} {
		s, w := played(calls), &slow{}
		play(w, calls, "")
		asked := []string{"", "\x00", "a", "b", "b\x00", "ba", "bb", "bb\x00", "c", "d", "e", "f", "g", "\xff\xff"}
		for _, from := range asked {
			for _, to := range asked {
				if got, want := pairs(s.Range(from, to)), pairs(w.Range(from, to)); !slices.Equal(got, want) {
					t.Errorf("P9.2: %s: Range(%q, %q): %v, not %v", calls, from, to, got, want)
				}
			}
		}
	}
}

// P9.2: the edges, told out: slots without anything to be read stand at the bounds, between, and beyond.
func TestRangeEdges(t *testing.T) {
	for _, calls := range []string{"=1 b=2 bb=3 c=4", "=1 a=7 b=2 bb=3 c=5 M a- ba=6 ba- c=4 d=8 d-"} {
		s := played(calls)
		for _, c := range []struct{ from, to, want string }{
			{"", "", "1 b2 bb3 c4"},
			{"", "a", "1"},
			{"", "b", "1 b2"},
			{"\x00", "b", "b2"},
			{"a", "", "b2 bb3 c4"},
			{"a", "a", "-"},
			{"a", "b", "b2"},
			{"b", "b", "b2"},
			{"b", "ba", "b2"},
			{"b\x00", "ba", "-"},
			{"ba", "bb", "bb3"},
			{"ba", "ba", "-"},
			{"b\x00", "", "bb3 c4"},
			{"c", "", "c4"},
			{"c", "d", "c4"},
			{"d", "", "-"},
			{"d", "e", "-"},
			{"c", "b", "-"},
			{"bb", "b", "-"},
			{"bb", "\xff", "bb3 c4"},
		} {
			if got := said(s.Range(c.from, c.to)); got != c.want {
				t.Errorf("P9.2: %s: Range(%q, %q): %s, not %s", calls, c.from, c.to, got, c.want)
			}
		}
	}
}

// P9.2, W7: bodies that write to the store, by what they do at c, and what is handed on then: the same marked and not.
func TestRangeWrites(t *testing.T) {
	for _, c := range []struct{ from, to, calls, want string }{
		{"", "", "", "a1 c2 e3 g4"},
		{"", "", "cc=9", "a1 c2 cc9 e3 g4"},
		{"", "", "f=9", "a1 c2 e3 f9 g4"},
		{"", "", "z=9", "a1 c2 e3 g4 z9"},
		{"", "", "b=9 =9", "a1 c2 e3 g4"},
		{"", "", "c=9", "a1 c2 e3 g4"},
		{"", "", "e-", "a1 c2 g4"},
		{"", "", "g- e-", "a1 c2"},
		{"", "", "a-", "a1 c2 e3 g4"},
		{"", "", "c-", "a1 c2 e3 g4"},
		{"", "", "c- c=9", "a1 c2 e3 g4"},
		{"", "", "e- e=9", "a1 c2 e9 g4"},
		{"", "", "e=8 g=9", "a1 c2 e8 g9"},
		{"", "", "d=9 d-", "a1 c2 e3 g4"},
		{"", "", "d=9 d- d=8", "a1 c2 d8 e3 g4"},
		{"", "", "a- c- e- g-", "a1 c2"},
		{"", "", "a- c- e- g- b=8 d=9", "a1 c2 d9"},
		{"b", "f", "f=8 ff=9", "c2 e3 f8"},
		{"b", "f", "g=9", "c2 e3"},
		{"c", "e", "b=8 d=9", "c2 d9 e3"},
		{"c", "e", "e-", "c2"},
		{"", "", "M", "a1 c2 e3 g4"},
		{"", "", "D", "a1 c2 e3 g4"},
		{"", "", "D M", "a1 c2 e3 g4"},
		{"", "", "M D", "a1 c2 e3 g4"},
		{"", "", "M e- D g=9", "a1 c2 g9"},
		{"", "", "D e- M g- f=7 D", "a1 c2 f7"},
		{"", "", "D M e- e=5 D M", "a1 c2 e5 g4"},
	} {
		for _, first := range []string{"a=1 c=2 e=3 g=4", "a=1 c=2 e=3 g=4 M", "a=8 c=8 d=8 e=8 f=8 M d- f- a=1 c=2 e=3 g=4 z=1 z-", "a=8 c=8 M a=1 c=2 D e=3 g=4"} {
			s := played(first)
			var told []string
			for k, v := range s.Range(c.from, c.to) {
				told = append(told, fmt.Sprint(k, v))
				if k == "c" {
					play(s, c.calls, "")
				}
			}
			if got := strings.Join(told, " "); got != c.want {
				t.Errorf("P9.2: %s, then %s at c: %s, not %s", first, c.calls, got, c.want)
			}
		}
	}
}

// P9.6: Snapshot from the empty text, a key, between two, beyond the greatest; the empty key is never gone through.
func TestSnapshot(t *testing.T) {
	for _, calls := range []string{
		"=9 a=1 ab=2 c=3 M",
		"a=1 ab=2 c=3 M",
		"a=1 ab=2 c=3 M =9 a=4 ab- b=5 c- c=6 d=7 d-",
		"=8 a=1 ab=2 c=8 x=8 M - x- c=3 D M",
		"=8 a=1 ab=2 c=8 x=8 M - x- c=3 D M a- ab- c- =5 x=6",
	} {
		s := played(calls)
		for _, c := range []struct{ above, want string }{
			{"", "a1 ab2 c3"},
			{"\x00", "a1 ab2 c3"},
			{"Z", "a1 ab2 c3"},
			{"a", "ab2 c3"},
			{"a\x00", "ab2 c3"},
			{"aa", "ab2 c3"},
			{"ab", "c3"},
			{"ab\x00", "c3"},
			{"b", "c3"},
			{"c", "-"},
			{"c\x00", "-"},
			{"\xff", "-"},
		} {
			if got := said(s.Snapshot(c.above)); got != c.want {
				t.Errorf("P9.6: %s: Snapshot(%q): %s, not %s", calls, c.above, got, c.want)
			}
		}
	}
}

// P9.6: of a store that is not marked: nothing; whenever the iterator was given, what is marked when it is gone through counts.
func TestSnapshotNotMarked(t *testing.T) {
	s := played("a=1 b=2")
	early := s.Snapshot("")
	is := func(want string) {
		t.Helper()
		if got, now := said(early), said(s.Snapshot("")); got != want || now != want {
			t.Errorf("P9.6: %s and %s, not %s", got, now, want)
		}
	}
	is("-")
	s.Mark()
	is("a1 b2")
	play(s, "a=3 b- c=4", "")
	is("a1 b2")
	s.Done()
	is("-")
	s.Mark()
	is("a3 c4")
	s.Done()
	play(s, "a- c-", "")
	is("-")
	s.Mark()
	is("-")
	s.Put("d", 1)
	is("-")
}

// P9.6, W7: bodies that write to the store, mark it and are done with it, by what they do at c, and what is handed on then.
func TestSnapshotWrites(t *testing.T) {
	for _, c := range []struct{ above, calls, want string }{
		{"", "", "a1 c2 e3 g4"},
		{"", "f=9 d=8", "a1 c2 e3 g4"},
		{"", "e=9 g=8", "a1 c2 e3 g4"},
		{"", "e- g-", "a1 c2 e3 g4"},
		{"", "e- e=9", "a1 c2 e3 g4"},
		{"", "a- c-", "a1 c2 e3 g4"},
		{"", "a=9 c=9 b=9 =9", "a1 c2 e3 g4"},
		{"", "d=9 d-", "a1 c2 e3 g4"},
		{"", "M", "a1 c2 e3 g4"},
		{"", "D", "a1 c2"},
		{"", "e=9 D", "a1 c2"},
		{"", "D e=9", "a1 c2"},
		{"", "D M", "a1 c2 e3 g4"},
		{"", "D e=9 M", "a1 c2 e9 g4"},
		{"", "e=9 D M", "a1 c2 e9 g4"},
		{"", "D M e=9", "a1 c2 e3 g4"},
		{"", "D e- M", "a1 c2 g4"},
		{"", "e- D M", "a1 c2 g4"},
		{"", "D M e-", "a1 c2 e3 g4"},
		{"", "d=9 D M", "a1 c2 d9 e3 g4"},
		{"", "D z=9 M z-", "a1 c2 e3 g4 z9"},
		{"", "b=9 c=9 D M", "a1 c2 e3 g4"},
		{"", "a- c- D M", "a1 c2 e3 g4"},
		{"", "e- g- D M", "a1 c2"},
		{"", "a- c- e- g- D M b=1 d=1", "a1 c2"},
		{"", "a- c- e- g- b=1 d=1 D M", "a1 c2 d1"},
		{"a", "e=9 D M", "c2 e9 g4"},
		{"b", "D", "c2"},
		{"bb", "D M D M", "c2 e3 g4"},
	} {
		for _, first := range []string{"a=1 c=2 e=3 g=4 M", "=7 a=1 c=2 e=3 g=4 M f=9 f-", "a=8 c=2 e=8 x=8 M a=1 e=3 x- D g=4 M"} {
			s := played(first)
			var told []string
			for k, v := range s.Snapshot(c.above) {
				told = append(told, fmt.Sprint(k, v))
				if k == "c" {
					play(s, c.calls, "")
				}
			}
			if got := strings.Join(told, " "); got != c.want {
				t.Errorf("P9.6: %s, then %s at c: %s, not %s", first, c.calls, got, c.want)
			}
		}
	}
}

// P9.2, P9.6: a body that always puts one more key just ahead sees each of them in a Range, none in a Snapshot.
func TestFeeds(t *testing.T) {
	s, n := played("a=1 M"), 0
	for k, v := range s.Range("", "") {
		if k != strings.Repeat("a", n+1) || v != n+1 {
			t.Fatalf("P9.2: %q %d", k, v)
		}
		if n++; n < 300 {
			s.Put(k+"a", n+1)
		}
	}
	if n != 300 || s.Len() != 300 || said(s.Snapshot("")) != "a1" {
		t.Errorf("P9.2: %d, %d", n, s.Len())
	}
	for k := range s.Range("", "") {
		s.Delete(k)
		n--
	}
	if n != 0 || s.Len() != 0 || said(s.Snapshot("")) != "a1" {
		t.Errorf("P9.2: %d, %d", n, s.Len())
	}
	for k := range s.Snapshot("") {
		n++
		s.Put(k+"b", 5)
		s.Put(k+"c", 5)
	}
	if n != 1 {
		t.Errorf("P9.6: %d", n)
	}
}

// W1: a body that stops is called no more, at the first step too, and what it has written stays.
func TestStops(t *testing.T) {
	s := played("a=1 b=2 c=3 d=4 M")
	for name, seq := range map[string]iter.Seq2[string, int]{"Range": s.Range("", ""), "Snapshot": s.Snapshot("")} {
		for n := range 4 {
			calls := 0
			seq(func(k string, v int) bool {
				if k != string(rune('a'+calls)) || v != calls+1 {
					t.Errorf("%s: %q %d", name, k, v)
				}
				s.Put("z", 9)
				calls++
				return calls <= n
			})
			if calls != n+1 {
				t.Errorf("W1: %s told to stop at %d, called %d times", name, n+1, calls)
			}
			if v, ok := s.Get("z"); v != 9 || !ok {
				t.Errorf("%s: %d, %v", name, v, ok)
			}
			s.Delete("z")
		}
	}
}

// W7: an iterator is gone through from the beginning each time, as the store is then.
func TestAgain(t *testing.T) {
	s := zigzag.New[int]()
	all, held := s.Range("b", "d"), s.Snapshot("a")
	goes := func(calls, want, kept string) {
		t.Helper()
		play(s, calls, "")
		for range 2 {
			if got := said(all); got != want {
				t.Errorf("P9.2: behind %s: %s, not %s", calls, got, want)
			}
			if got := said(held); got != kept {
				t.Errorf("P9.6: behind %s: %s, not %s", calls, got, kept)
			}
			for range all {
				break
			}
			for range held {
				break
			}
		}
	}
	goes("", "-", "-")
	goes("a=1 b=2 d=4 e=5", "b2 d4", "-")
	goes("M", "b2 d4", "b2 d4 e5")
	goes("b- c=3", "c3 d4", "b2 d4 e5")
	goes("D", "c3 d4", "-")
	goes("c- d- M", "-", "e5")
}

// W7: loops of one iterator one inside another do not know of each other.
func TestNested(t *testing.T) {
	s := played("a=1 b=2 c=3 M")
	for name, seq := range map[string]iter.Seq2[string, int]{"Range": s.Range("", ""), "Snapshot": s.Snapshot("")} {
		var told []string
		for a := range seq {
			for b := range seq {
				if b == "c" && a == "b" {
					break
				}
				for c := range seq {
					told = append(told, a+b+c)
				}
			}
		}
		want := "aaa aab aac aba abb abc aca acb acc baa bab bac bba bbb bbc caa cab cac cba cbb cbc cca ccb ccc"
		if got := strings.Join(told, " "); got != want {
			t.Errorf("W7: %s: %s", name, got)
		}
	}
}

// W7: what the inner loop writes, marks and ends is seen by the outer one, and the other way round.
func TestNestedWrites(t *testing.T) {
	s := played("a=1 b=2 c=3 M")
	held := s.Snapshot("")
	var told []string
	for k, v := range s.Range("", "") {
		told = append(told, fmt.Sprintf("%s%d:", k, v))
		for h, v := range held {
			told = append(told, fmt.Sprint(h, v))
			if k == "a" && h == "b" {
				play(s, "b- d=4 c=5", "")
			}
			if k == "c" && h == "a" {
				play(s, "D e=6 M", "")
			}
			if k == "d" && h == "d" {
				play(s, "D", "")
			}
		}
	}
	want := "a1: a1 b2 c3 c5: a1 c5 d4 e6 d4: a1 c5 d4 e6:"
	if got := strings.Join(told, " "); got != want {
		t.Errorf("W7: %s, not %s", got, want)
	}
}

// pulled asks an iterator step by step; what others than a body write between two steps is seen.
func pulled(t *testing.T, seq iter.Seq2[string, int]) (func(want string), func()) {
	next, stop := iter.Pull2(seq)
	return func(want string) {
		t.Helper()
		k, v, ok := next()
		if got := fmt.Sprint(k, v); !ok && want != "-" || ok && got != want || !ok && (k != "" || v != 0) {
			t.Errorf("W7: %q %d %v, not %s", k, v, ok, want)
		}
	}, stop
}

// P9.2, W7: a Range asked step by step while the store is written to, marked and done with.
func TestRangePulled(t *testing.T) {
	s := played("b=1 d=2 f=3")
	is, stop := pulled(t, s.Range("a", "y"))
	defer stop()
	play(s, "a=7 M", "")
	is("a7")
	play(s, "aa=8", "")
	is("aa8")
	play(s, "b- d=9", "")
	is("d9")
	play(s, "d- c=1 D", "")
	is("f3")
	play(s, "e=1 M y=5 z=6", "")
	is("y5")
	play(s, "yy=6", "")
	is("-")
}

// P9.6, W7: two Snapshots asked by turns, one of which is begun under a mark that ends, while the other goes on.
func TestSnapshotPulled(t *testing.T) {
	s := played("a=1 b=2 c=3 d=4")
	seq := s.Snapshot("")
	one, stopOne := pulled(t, seq)
	defer stopOne()
	two, stopTwo := pulled(t, seq)
	defer stopTwo()
	s.Mark()
	one("a1")
	one("b2")
	play(s, "a- b=9 c=8", "")
	two("a1")
	one("c3")
	s.Done()
	one("-")
	play(s, "bb=7 M bb- c-", "")
	two("b9")
	two("bb7")
	one("-")
	two("c8")
	play(s, "D e=5 d- M", "")
	two("e5")
	two("-")
}

// body is one that makes calls by what chance says, the same on both stores, and goes through the store inside the loop too.
func body(s store, r *rand.Rand, keys []string, depth int, told *[]string) func(string, int) bool {
	return func(k string, v int) bool {
		*told = append(*told, fmt.Sprintf("%d %q %d", depth, k, v))
		for range r.Intn(4) {
			*told = append(*told, doRandom(s, r, append(keys, k)))
		}
		if depth < 2 && r.Intn(4) == 0 {
			walk(s, r, keys, depth+1, told)
		}
		return r.Intn(20) > 0
	}
}

// walk is one loop through a store, from and to where chance says.
func walk(s store, r *rand.Rand, keys []string, depth int, told *[]string) {
	from, to := keys[r.Intn(len(keys))], keys[r.Intn(len(keys))]
	if r.Intn(3) == 0 {
		from, to = "", ""
	}
	seq := s.Range(from, to)
	if r.Intn(2) == 0 {
		seq = s.Snapshot(from)
	}
	seq(body(s, r, keys, depth, told))
}

// P9.2, P9.6, W7: loops at random that write to the store, mark it and stand one inside another, against the chapter's words.
func TestLoopsAgainstWords(t *testing.T) {
	for seed := range int64(500) {
		keys := someKeys(rand.New(rand.NewSource(seed)))
		run := func(s store) []string {
			var told []string
			r := rand.New(rand.NewSource(seed))
			for range 12 {
				for range 1 + r.Intn(8) {
					told = append(told, doRandom(s, r, keys))
				}
				walk(s, r, keys, 0, &told)
			}
			return told
		}
		s, w := zigzag.New[int](), &slow{}
		got, want := run(s), run(w)
		if !slices.Equal(got, want) {
			t.Fatalf("W7: seed %d: %q, not %q", seed, got, want)
		}
		same(t, s, w, keys)
	}
}

// P9.1: loops through two stores, each writing to the other and marking it.
func TestLoopsApart(t *testing.T) {
	s, other := played("a=1 b=2 c=3 M"), played("b=5 d=6")
	var told []string
	for k := range s.Snapshot("") {
		told = append(told, k)
		other.Delete(k)
		other.Put(k+"y", 1)
		told = append(told, said(other.Range("", "")), said(other.Snapshot("")))
		if e := other.Mark(); (e == api.OK) != (k == "a") {
			t.Errorf("P9.1: %v at %s", e, k)
		}
	}
	want := "a ay1 b5 d6 - b ay1 by1 d6 ay1 b5 d6 c ay1 by1 cy1 d6 ay1 b5 d6"
	if got := strings.Join(told, " "); got != want || !s.Marked() || s.Len() != 3 {
		t.Errorf("P9.1: %s", got)
	}
}
