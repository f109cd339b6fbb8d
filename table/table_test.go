package table_test

import (
	"fmt"
	"math"
	"math/rand"
	"runtime"
	"slices"
	"strings"
	"testing"
	"unsafe"
	"weak"

	"treadle/table"
)

// pair is a key and what it has.
type pair struct {
	key string
	has int
}

// slow is a table by the chapter's words: pairs in the order in which they came, all of them looked at for each question.
type slow struct{ pairs []pair }

func (s *slow) place(key string) int {
	return slices.IndexFunc(s.pairs, func(p pair) bool { return p.key == key })
}

func (s *slow) get(key string) (int, bool) {
	if i := s.place(key); i >= 0 {
		return s.pairs[i].has, true
	}
	return 0, false
}

func (s *slow) put(key string, v int) (int, bool) {
	had, was := s.delete(key)
	s.pairs = append(s.pairs, pair{key, v})
	return had, was
}

func (s *slow) delete(key string) (int, bool) {
	had, was := s.get(key)
	if was {
		i := s.place(key)
		s.pairs = slices.Delete(s.pairs, i, i+1)
	}
	return had, was
}

// ahead tells whether one text is ahead of another, byte by byte, a text ahead of what it is the beginning of.
func ahead(a, b string) bool {
	for i := 0; i < len(a) && i < len(b); i++ {
		if a[i] != b[i] {
			return a[i] < b[i]
		}
	}
	return len(a) < len(b)
}

// least is the least key of which a question holds.
func (s *slow) least(asked func(string) bool) (string, bool) {
	found, ok := "", false
	for _, p := range s.pairs {
		if asked(p.key) && (!ok || ahead(p.key, found)) {
			found, ok = p.key, true
		}
	}
	return found, ok
}

func (s *slow) next(above string) (string, bool) {
	return s.least(func(k string) bool { return ahead(above, k) })
}

func (s *slow) rangeOver(from, to string, body func(string, int) bool) {
	k, ok := s.least(func(k string) bool { return !ahead(k, from) })
	for ok && (to == "" || !ahead(to, k)) {
		v, _ := s.get(k)
		if !body(k, v) {
			return
		}
		k, ok = s.next(k)
	}
}

// filled is a table with these keys; the one at place i has i+1.
func filled(keys ...string) *table.Table[int] {
	x := table.New[int]()
	for i, k := range keys {
		x.Put(k, i+1)
	}
	return x
}

// gone is what a Range hands on.
func gone(x *table.Table[int], from, to string) []pair {
	var ps []pair
	for k, v := range x.Range(from, to) {
		ps = append(ps, pair{k, v})
	}
	return ps
}

// same holds a table against the slow one, as far as it is seen from outside, at these keys and all it has.
func same(t *testing.T, x *table.Table[int], s *slow, keys []string) {
	t.Helper()
	if x.Len() != len(s.pairs) {
		t.Fatalf("P8.3: Len %d, not %d", x.Len(), len(s.pairs))
	}
	for _, k := range keys {
		v, ok := x.Get(k)
		if w, is := s.get(k); v != w || ok != is {
			t.Fatalf("P8.2: Get(%q) is %d, %v, not %d, %v", k, v, ok, w, is)
		}
		n, ok := x.Next(k)
		if m, is := s.next(k); n != m || ok != is {
			t.Fatalf("P8.4: Next(%q) is %q, %v, not %q, %v", k, n, ok, m, is)
		}
	}
	want := slices.Clone(s.pairs)
	slices.SortFunc(want, func(a, b pair) int {
		if ahead(a.key, b.key) {
			return -1
		}
		return 1
	})
	if got := gone(x, "", ""); !slices.Equal(got, want) {
		t.Fatalf("P8.6: %v, not %v", got, want)
	}
}

// oddKeys: the empty one, beginnings of others, bytes of any kind, texts that are no UTF-8.
var oddKeys = []string{
	"", "\x00", "\x00\x00", "\x00\x01", "\x01", "a", "a\x00", "a\x00b", "a\xff", "aa", "aaa", "ab", "b", "ba",
	"A", "Z", "z", "~", "\x7f", "\x80", "é", "é!", "e\u0301", "\u2028", "\U0001f600", "\xc3", "\xfe", "\xff", "\xff\x00", "\xff\xff", "\xff\xff\xff",
	strings.Repeat("k", 300), strings.Repeat("k", 300) + "a", strings.Repeat("k", 299) + "j", strings.Repeat("\x00", 70000), strings.Repeat("\x00", 70001),
}

// TestExamples: the chapter's table.
func TestExamples(t *testing.T) {
	x := table.New[int]()
	x.Put("b", 2)
	x.Put("a", 1)
	x.Put("d", 4)
	is := func(what string, got any, ok bool, want any, wanted bool) {
		t.Helper()
		if got != want || ok != wanted {
			t.Errorf("%s: %v, %v, not %v, %v", what, got, ok, want, wanted)
		}
	}
	goes := func(from, to string, want ...pair) {
		t.Helper()
		if got := gone(x, from, to); !slices.Equal(got, want) {
			t.Errorf("P8.5: Range(%q, %q): %v, not %v", from, to, got, want)
		}
	}
	v, ok := x.Get("a")
	is("P8.2: Get", v, ok, 1, true)
	v, ok = x.Get("c")
	is("P8.2: Get", v, ok, 0, false)
	is("P8.3: Len", x.Len(), true, 3, true)
	v, ok = x.Put("b", 3)
	is("P8.3: Put", v, ok, 2, true)
	v, ok = x.Put("b", 2)
	is("P8.3: Put", v, ok, 3, true)
	v, ok = x.Delete("c")
	is("P8.3: Delete", v, ok, 0, false)
	for _, row := range [][2]string{{"", "a"}, {"a", "b"}, {"b\x00", "d"}, {"d", ""}} {
		k, ok := x.Next(row[0])
		is("P8.4: Next", k, ok, row[1], row[1] != "")
	}
	goes("a", "c", pair{"a", 1}, pair{"b", 2})
	goes("b", "", pair{"b", 2}, pair{"d", 4})
	goes("c", "b")
	var keys []string
	for k := range x.Range("", "") {
		keys = append(keys, k)
		switch k {
		case "a":
			x.Delete("b")
		case "d":
			x.Put("e", 5)
		}
	}
	if !slices.Equal(keys, []string{"a", "d", "e"}) {
		t.Errorf("P8.5: %q", keys)
	}
	x.Put("", 0)
	goes("", "a", pair{"", 0}, pair{"a", 1})
	k, ok := x.Next("")
	is("P8.4: Next", k, ok, "a", true)
}

// P8.1: a new table has no key, and is an object of its own that can be written to.
func TestNew(t *testing.T) {
	x := table.New[int]()
	same(t, x, &slow{}, oddKeys)
	if v, ok := x.Delete(""); v != 0 || ok {
		t.Errorf("P8.3: Delete: %d, %v", v, ok)
	}
	x.Put("a", 1)
	same(t, x, &slow{[]pair{{"a", 1}}}, oddKeys)
	same(t, table.New[int](), &slow{}, oddKeys)
}

// P8.1: a zero table is used like any, whatever the first call is.
func TestZero(t *testing.T) {
	var got, put, deleted, asked, gonethrough table.Table[int]
	if v, ok := got.Get(""); v != 0 || ok {
		t.Errorf("P8.1: Get: %d, %v", v, ok)
	}
	if v, ok := put.Put("", 7); v != 0 || ok {
		t.Errorf("P8.1: Put: %d, %v", v, ok)
	}
	put.Delete("")
	if v, ok := deleted.Delete(""); v != 0 || ok {
		t.Errorf("P8.1: Delete: %d, %v", v, ok)
	}
	if k, ok := asked.Next(""); k != "" || ok || asked.Len() != 0 {
		t.Errorf("P8.1: Next: %q, %v", k, ok)
	}
	for k := range gonethrough.Range("", "") {
		t.Errorf("P8.1: Range: %q", k)
	}
	for _, x := range []*table.Table[int]{&got, &put, &deleted, &asked, &gonethrough, {}} {
		var s slow
		same(t, x, &s, oddKeys)
		for i, k := range oddKeys {
			x.Put(k, i)
			s.put(k, i)
		}
		same(t, x, &s, oddKeys)
	}
}

// W8: nothing happens to a nil table.
func TestNil(t *testing.T) {
	var x *table.Table[int]
	var other *table.Table[*pair]
	for _, k := range oddKeys {
		if v, ok := x.Put(k, 1); v != 0 || ok {
			t.Errorf("W8: Put: %d, %v", v, ok)
		}
		if v, ok := x.Get(k); v != 0 || ok {
			t.Errorf("W8: Get: %d, %v", v, ok)
		}
		if v, ok := x.Delete(k); v != 0 || ok {
			t.Errorf("W8: Delete: %d, %v", v, ok)
		}
		if k, ok := x.Next(k); k != "" || ok {
			t.Errorf("W8: Next: %q, %v", k, ok)
		}
		if v, ok := other.Put(k, &pair{}); v != nil || ok {
			t.Errorf("W8: Put: %v, %v", v, ok)
		}
		if v, ok := other.Get(k); v != nil || ok {
			t.Errorf("W8: Get: %v, %v", v, ok)
		}
		for _, to := range []string{"", k, "b"} {
			seq := x.Range(k, to)
			if seq == nil {
				t.Fatal("W8: Range is nil")
			}
			for range 2 {
				for k := range seq {
					t.Errorf("W8: Range: %q", k)
				}
			}
		}
	}
	if x.Len() != 0 || other.Len() != 0 {
		t.Error("W8: Len")
	}
}

// P8.2, P8.3: what each call answers at a key that is there and that is not, at each odd key beside all others and alone.
func TestOneKey(t *testing.T) {
	for i, k := range oddKeys {
		for _, rest := range [][]string{nil, slices.Delete(slices.Clone(oddKeys), i, i+1)} {
			x, s := filled(rest...), &slow{}
			for j, r := range rest {
				s.put(r, j+1)
			}
			was := len(rest)
			answers := func(what string, v int, ok bool, want int, wanted bool, now int) {
				t.Helper()
				if v != want || ok != wanted || x.Len() != now {
					t.Errorf("P8.3: %s %q: %d, %v and %d keys, not %d, %v and %d", what, k, v, ok, x.Len(), want, wanted, now)
				}
			}
			v, ok := x.Get(k)
			answers("Get", v, ok, 0, false, was)
			v, ok = x.Delete(k)
			answers("Delete", v, ok, 0, false, was)
			same(t, x, s, oddKeys)
			v, ok = x.Put(k, -5)
			answers("Put", v, ok, 0, false, was+1)
			v, ok = x.Get(k)
			answers("Get", v, ok, -5, true, was+1)
			v, ok = x.Put(k, 0)
			answers("Put", v, ok, -5, true, was+1)
			v, ok = x.Get(k)
			answers("Get", v, ok, 0, true, was+1)
			v, ok = x.Put(k, math.MinInt)
			answers("Put", v, ok, 0, true, was+1)
			s.put(k, math.MinInt)
			same(t, x, s, oddKeys)
			v, ok = x.Delete(k)
			answers("Delete", v, ok, math.MinInt, true, was)
			v, ok = x.Get(k)
			answers("Get", v, ok, 0, false, was)
			v, ok = x.Delete(k)
			answers("Delete", v, ok, 0, false, was)
			s.delete(k)
			same(t, x, s, oddKeys)
			v, ok = x.Put(k, 9)
			answers("Put", v, ok, 0, false, was+1)
			s.put(k, 9)
			same(t, x, s, oddKeys)
		}
	}
}

// holdsOnto: a table of some type answers what was put, as it was put, and a zero value where nothing was.
func holdsOnto[V any](t *testing.T, equal func(a, b V) bool, values ...V) {
	t.Helper()
	zero := *new(V)
	x := table.New[V]()
	for i, v := range values {
		if had, ok := x.Put("k", v); ok != (i > 0) || i == 0 && !equal(had, zero) || i > 0 && !equal(had, values[i-1]) {
			t.Errorf("P8.3: Put of %T: %v, %v", v, had, ok)
		}
		if got, ok := x.Get("k"); !ok || !equal(got, v) {
			t.Errorf("P8.2: Get of %T: %v, %v", v, got, ok)
		}
		for _, got := range x.Range("", "") {
			if !equal(got, v) {
				t.Errorf("P8.5: Range of %T: %v", v, got)
			}
		}
		if got, ok := x.Get("l"); ok || !equal(got, zero) {
			t.Errorf("P8.2: Get of %T: %v, %v", v, got, ok)
		}
		if got, ok := x.Delete("l"); ok || !equal(got, zero) {
			t.Errorf("P8.3: Delete of %T: %v, %v", v, got, ok)
		}
	}
	last := values[len(values)-1]
	if got, ok := x.Delete("k"); !ok || !equal(got, last) {
		t.Errorf("P8.3: Delete of %T: %v, %v", last, got, ok)
	}
	if got, ok := x.Delete("k"); ok || !equal(got, zero) || x.Len() != 0 {
		t.Errorf("P8.3: Delete of %T: %v, %v", last, got, ok)
	}
}

func alike[V comparable](a, b V) bool { return a == b }

// P8.2, P8.3, W6: values of several types; pointers, lists and maps are the very ones that were handed in.
func TestTypes(t *testing.T) {
	type things struct {
		name string
		at   *int
		row  [3]uint8
	}
	n := 5
	holdsOnto(t, alike, 0, 1, 0, -1)
	holdsOnto(t, alike, "", "a", "\x00")
	holdsOnto(t, alike, false, true, false)
	holdsOnto(t, alike, struct{}{}, struct{}{})
	holdsOnto(t, alike, [2]string{"a"}, [2]string{"", "b"}, [2]string{})
	holdsOnto(t, alike, things{}, things{"a", &n, [3]uint8{1}}, things{"", new(int), [3]uint8{}})
	holdsOnto(t, alike, new(int), &n, nil, new(int))
	holdsOnto(t, alike, any(nil), any(1), any("x"), any(&n), any(nil))
	holdsOnto(t, alike, error(nil), fmt.Errorf("a"), nil)
	holdsOnto(t, alike, table.New[int](), nil, table.New[int]())
	holdsOnto(t, func(a, b float64) bool { return math.Float64bits(a) == math.Float64bits(b) }, math.NaN(), math.Copysign(0, -1), 0)
	row := []int{1, 2, 3}
	holdsOnto(t, func(a, b []int) bool {
		return len(a) == len(b) && cap(a) == cap(b) && (a == nil) == (b == nil) && unsafe.SliceData(a) == unsafe.SliceData(b)
	}, nil, row, row[:1], row[1:1:2], []int{})
	m := map[string]int{}
	holdsOnto(t, func(a, b map[string]int) bool { return fmt.Sprintf("%p", a) == fmt.Sprintf("%p", b) }, nil, m, map[string]int{})
	c := 0
	holdsOnto(t, func(a, b func()) bool {
		was := c
		if a != nil {
			a()
		}
		return (a == nil) == (b == nil) && (a == nil || c == was+1)
	}, nil, func() { c++ })
}

// W6: what a pointer or a list points to is neither copied nor written to: who writes there is seen by who asks.
func TestValuesAsTheyAre(t *testing.T) {
	x := table.New[[]int]()
	row := make([]int, 1, 4)
	x.Put("a", row[:1])
	row[0] = 7
	got, _ := x.Get("a")
	if got[0] != 7 || cap(got) != 4 {
		t.Errorf("W6: %v", got)
	}
	got[0] = 8
	for _, v := range x.Range("", "") {
		if v[0] != 8 || cap(v) != 4 {
			t.Errorf("W6: %v", v)
		}
		v[0] = 9
	}
	x.Put("b", nil)
	x.Delete("b")
	if had, ok := x.Put("a", nil); !ok || had[0] != 9 || row[0] != 9 || row[:4][3] != 0 {
		t.Errorf("W6: %v, %v", had, row[:4])
	}
}

// P8.4: Next at keys, between them, at both ends and beyond, with and without the empty key.
func TestNext(t *testing.T) {
	asked := []string{"", "\x00", "a", "b", "b\x00", "bb", "bbb", "c", "d", "d\x00", "e", "\xff"}
	want := []string{"b", "b", "b", "bb", "bb", "d", "d", "d", "", "", "", ""}
	for _, keys := range [][]string{{"b", "bb", "d"}, {"d", "", "bb", "b"}} {
		x := filled(keys...)
		for i, above := range asked {
			if k, ok := x.Next(above); k != want[i] || ok != (want[i] != "") {
				t.Errorf("P8.4: Next(%q) is %q, %v, not %q", above, k, ok, want[i])
			}
		}
	}
	if k, ok := filled("").Next(""); k != "" || ok {
		t.Errorf("P8.4: Next of the empty key alone: %q, %v", k, ok)
	}
}

// P8.6: many keys put in one order and deleted in another, looked at after each tenth step.
func TestOrders(t *testing.T) {
	const many = 120
	name := func(i int) string { return fmt.Sprintf("%03d", i) }
	orders := []func(int) int{
		func(i int) int { return i },
		func(i int) int { return many - 1 - i },
		func(i int) int { return i * 53 % many },
		func(i int) int { return (i%2)*(many-1) + (1-i%2*2)*(i/2) },
		func(i int) int { return (many/2 + i) % many },
	}
	var keys []string
	for i := range many {
		keys = append(keys, name(i))
	}
	for a, in := range orders {
		for b, out := range orders {
			x, s := table.New[int](), &slow{}
			both := func(i int, v int, ok bool, w int, is bool) {
				if v != w || ok != is {
					t.Fatalf("P8.3: orders %d, %d: %d, %v, not %d, %v", a, b, v, ok, w, is)
				}
				if i%10 == 9 {
					same(t, x, s, keys)
				}
			}
			for i := range many {
				v, ok := x.Put(name(in(i)), i)
				w, is := s.put(name(in(i)), i)
				both(i, v, ok, w, is)
			}
			for i := range many {
				v, ok := x.Delete(name(out(i)))
				w, is := s.delete(name(out(i)))
				both(i, v, ok, w, is)
			}
		}
	}
}

// P8.6: a Range through all and Next from the empty text on tell the same keys, but for the empty one.
func TestRangeAndNext(t *testing.T) {
	r := rand.New(rand.NewSource(86))
	for n := range 200 {
		x := table.New[int]()
		for range n {
			x.Put(fmt.Sprint(r.Intn(300)), 1)
		}
		if n%2 == 0 {
			x.Put("", 2)
		}
		var ranged, asked []string
		for k := range x.Range("", "") {
			ranged = append(ranged, k)
		}
		for k, ok := x.Next(""); ok; k, ok = x.Next(k) {
			asked = append(asked, k)
		}
		if len(ranged) != x.Len() || !slices.IsSorted(ranged) || len(slices.Compact(slices.Clone(ranged))) != len(ranged) {
			t.Fatalf("P8.6: %d keys: %q", x.Len(), ranged)
		}
		if n%2 == 0 {
			if ranged[0] != "" {
				t.Fatalf("P8.6: the empty key is missing: %q", ranged)
			}
			ranged = ranged[1:]
		}
		if !slices.Equal(ranged, asked) {
			t.Fatalf("P8.6: %q, not %q", asked, ranged)
		}
	}
}

// P8.2 to P8.6: rows of calls at random, held call by call against the chapter's words.
func TestAgainstWords(t *testing.T) {
	r := rand.New(rand.NewSource(8))
	for round := range 60 {
		keys := slices.Clone(oddKeys[:len(oddKeys)-5])
		if round%2 == 0 {
			for i := range keys {
				keys[i] = string([]byte{byte(r.Intn(3)), byte(r.Intn(3)), byte(r.Intn(3))}[:r.Intn(4)])
			}
		}
		x, s := &table.Table[int]{}, &slow{}
		for step := range 300 {
			k := keys[r.Intn(len(keys))]
			var v, w int
			var ok, is bool
			if r.Intn(5) < 3 == (step%120 < 60) {
				v, ok = x.Put(k, step)
				w, is = s.put(k, step)
			} else {
				v, ok = x.Delete(k)
				w, is = s.delete(k)
			}
			if v != w || ok != is {
				t.Fatalf("P8.3: at %q: %d, %v, not %d, %v", k, v, ok, w, is)
			}
			if step%20 == 0 {
				same(t, x, s, keys)
			}
		}
	}
}

// P8.8: tables written to by turns, of one type and of another, each answer as if it were alone.
func TestApart(t *testing.T) {
	r := rand.New(rand.NewSource(88))
	xs := []*table.Table[int]{table.New[int](), table.New[int](), {}}
	ss := []*slow{{}, {}, {}}
	other, texts := table.New[string](), map[string]string{}
	keys := strings.Split(" a b c d e f g h i j k l m n o p", " ")
	for step := range 3000 {
		i, k := r.Intn(4), keys[r.Intn(len(keys))]
		switch put := r.Intn(2) == 0; {
		case i == 3 && put:
			other.Put(k, fmt.Sprint(step))
			texts[k] = fmt.Sprint(step)
		case i == 3:
			other.Delete(k)
			delete(texts, k)
		case put:
			xs[i].Put(k, step)
			ss[i].put(k, step)
		default:
			xs[i].Delete(k)
			ss[i].delete(k)
		}
		if step%10 != 0 {
			continue
		}
		for i, x := range xs {
			same(t, x, ss[i], keys)
		}
		for _, k := range keys {
			v, ok := other.Get(k)
			if w, is := texts[k]; v != w || ok != is || other.Len() != len(texts) {
				t.Fatalf("P8.8: %q: %q, %v, not %q, %v", k, v, ok, w, is)
			}
		}
	}
}

// W6: a table keeps its own copy of a key: memory that the text shares may be changed by its owner.
func TestKeysNotShared(t *testing.T) {
	room := []byte("bbb")
	shared := unsafe.String(&room[0], len(room))
	x := filled("a", "c")
	x.Put(shared, 9)
	x.Get(shared)
	x.Delete("a")
	seq := x.Range(shared, shared)
	clear(room)
	if v, ok := x.Get("bbb"); v != 9 || !ok {
		t.Errorf("W6: %d, %v", v, ok)
	}
	if k, ok := x.Next(""); k != "bbb" || !ok {
		t.Errorf("W6: Next: %q, %v", k, ok)
	}
	var keys []string
	for k := range seq {
		keys = append(keys, k)
	}
	if !slices.Equal(keys, []string{"bbb"}) {
		t.Errorf("W6: Range: %q", keys)
	}
}

// W6: each key that is answered is memory of its own.
func TestKeysAnswered(t *testing.T) {
	const key = "a key of some length"
	x := table.New[int]()
	x.Put(key, 1)
	seen := map[*byte]string{unsafe.StringData(key): "the argument"}
	apart := func(who, k string) {
		t.Helper()
		if k != key {
			t.Errorf("%s: %q", who, k)
		}
		if was, ok := seen[unsafe.StringData(k)]; ok {
			t.Errorf("W6: %s shares memory with %s", who, was)
		}
		seen[unsafe.StringData(k)] = who
	}
	for range 2 {
		k, _ := x.Next("")
		apart("Next", k)
		for k := range x.Range("", "") {
			apart("Range", k)
		}
		for k := range x.Range(key, key) {
			apart("Range from it", k)
		}
	}
}

// W6: texts that were handed in are let go as soon as their owner lets them go, and so is what a key had, once it is gone.
func TestNotKept(t *testing.T) {
	type held struct {
		rows []weak.Pointer[[4096]byte]
		keep []any
	}
	told := make(chan held)
	// A goroutine of its own, so that no stack of this one holds them any more.
	go func() {
		var h held
		row := func() *[4096]byte {
			p := new([4096]byte)
			h.rows = append(h.rows, weak.Make(p))
			return p
		}
		text := func(fill byte) string {
			p := row()
			for i := range p {
				p[i] = fill
			}
			return unsafe.String(&p[0], 40)
		}
		x := table.New[*[4096]byte]()
		for i := range byte(20) {
			x.Put(text('a'+i), row())
			x.Put(text('a'+i), row())
			x.Get(text('a' + i))
			x.Next(text('a' + i))
		}
		h.keep = append(h.keep, x.Range(text('b'), text('d')))
		x.Delete(text('A'))
		for i := range byte(20) {
			x.Delete(text('a' + (i*7+3)%20))
			h.keep = append(h.keep, x.Len())
		}
		x.Put("", row())
		x.Put("", nil)
		h.keep = append(h.keep, x)
		told <- h
	}()
	h := <-told
	for range 10 {
		runtime.GC()
	}
	for i, p := range h.rows {
		if p.Value() != nil {
			t.Errorf("W6: row %d is kept", i)
		}
	}
	runtime.KeepAlive(h.keep)
}

// W1: a table of many keys, put in rising order, is still asked in little time.
func TestMany(t *testing.T) {
	const many = 200000
	x := table.New[int]()
	for i := range many {
		x.Put(fmt.Sprintf("%06d", i), i)
	}
	n := 0
	for k, v := range x.Range("", "") {
		if v != n || k != fmt.Sprintf("%06d", n) {
			t.Fatalf("P8.6: %q %d, not %d", k, v, n)
		}
		n++
	}
	if n != many || x.Len() != many {
		t.Fatalf("P8.6: %d, %d", n, x.Len())
	}
	for i := range many {
		if v, ok := x.Delete(fmt.Sprintf("%06d", many-1-i)); v != many-1-i || !ok {
			t.Fatalf("P8.3: %d, %v", v, ok)
		}
	}
	same(t, x, &slow{}, oddKeys)
}
