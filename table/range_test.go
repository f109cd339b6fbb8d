package table_test

import (
	"fmt"
	"iter"
	"math/rand"
	"slices"
	"strings"
	"testing"

	"treadle/table"
)

// either is a table or the slow one, so that the same body can be run on both.
type either interface {
	put(key string, v int) (int, bool)
	delete(key string) (int, bool)
	rangeOver(from, to string, body func(string, int) bool)
}

// quick is a table as an either.
type quick struct{ *table.Table[int] }

func (x quick) put(key string, v int) (int, bool) { return x.Put(key, v) }
func (x quick) delete(key string) (int, bool)     { return x.Delete(key) }
func (x quick) rangeOver(from, to string, body func(string, int) bool) {
	for k, v := range x.Range(from, to) {
		if !body(k, v) {
			break
		}
	}
}

// TestRange: from and to of every kind and order, against the chapter's words.
func TestRange(t *testing.T) {
	for _, keys := range [][]string{nil, {""}, {"a"}, {"b", "bb", "d"}, {"d", "", "b", "bb", "f"}, oddKeys} {
		x, s := filled(keys...), &slow{}
		for i, k := range keys {
			s.put(k, i+1)
		}
		asked := []string{"", "\x00", "a", "b", "b\x00", "ba", "bb", "bb\x00", "c", "d", "e", "f", "g", "\xff\xff\xff\xff"}
		asked = append(asked, keys...)
		for _, from := range asked {
			for _, to := range asked {
				var want []pair
				s.rangeOver(from, to, func(k string, v int) bool {
					want = append(want, pair{k, v})
					return true
				})
				if got := gone(x, from, to); !slices.Equal(got, want) {
					t.Fatalf("P8.5: Range(%q, %q): %v, not %v", from, to, got, want)
				}
			}
		}
	}
}

// P8.5: the edges that the chapter names, told out.
func TestRangeEdges(t *testing.T) {
	x := filled("", "a", "b", "bb", "c")
	for _, c := range []struct {
		from, to, want string
	}{
		{"", "", "|a|b|bb|c"},
		{"", "a", "|a"},
		{"", "\x00", ""},
		{"a", "a", "a"},
		{"b", "b", "b"},
		{"b", "bb", "b|bb"},
		{"b\x00", "bb", "bb"},
		{"b\x00", "b\x01", "-"},
		{"b", "ba", "b"},
		{"c", "", "c"},
		{"c\x00", "", "-"},
		{"d", "e", "-"},
		{"c", "b", "-"},
		{"bb", "b", "-"},
		{"bb", "\xff", "bb|c"},
	} {
		var keys []string
		for k := range x.Range(c.from, c.to) {
			keys = append(keys, k)
		}
		got := strings.Join(keys, "|")
		if keys == nil {
			got = "-"
		}
		if got != c.want {
			t.Errorf("P8.5: Range(%q, %q): %s, not %s", c.from, c.to, got, c.want)
		}
	}
}

// P8.5, W7: bodies that write to the table, each by what it does at "c" of a, c, e, g, and what is handed on then.
func TestRangeWrites(t *testing.T) {
	for _, c := range []struct {
		name string
		from string
		to   string
		body func(x *table.Table[int])
		want string
	}{
		{"nothing", "", "", func(x *table.Table[int]) {}, "a1 c2 e3 g4"},
		{"puts just ahead", "", "", func(x *table.Table[int]) { x.Put("c\x00", 9) }, "a1 c2 c\x009 e3 g4"},
		{"puts ahead", "", "", func(x *table.Table[int]) { x.Put("f", 9) }, "a1 c2 e3 f9 g4"},
		{"puts at the end", "", "", func(x *table.Table[int]) { x.Put("z", 9) }, "a1 c2 e3 g4 z9"},
		{"puts behind", "", "", func(x *table.Table[int]) { x.Put("b", 9); x.Put("", 9) }, "a1 c2 e3 g4"},
		{"puts at", "", "", func(x *table.Table[int]) { x.Put("c", 9) }, "a1 c2 e3 g4"},
		{"deletes the next", "", "", func(x *table.Table[int]) { x.Delete("e") }, "a1 c2 g4"},
		{"deletes all ahead", "", "", func(x *table.Table[int]) { x.Delete("g"); x.Delete("e") }, "a1 c2"},
		{"deletes behind", "", "", func(x *table.Table[int]) { x.Delete("a") }, "a1 c2 e3 g4"},
		{"deletes at", "", "", func(x *table.Table[int]) { x.Delete("c") }, "a1 c2 e3 g4"},
		{"deletes and puts at", "", "", func(x *table.Table[int]) { x.Delete("c"); x.Put("c", 9) }, "a1 c2 e3 g4"},
		{"deletes and puts the next", "", "", func(x *table.Table[int]) { x.Delete("e"); x.Put("e", 9) }, "a1 c2 e9 g4"},
		{"changes ahead", "", "", func(x *table.Table[int]) { x.Put("e", 8); x.Put("g", 9) }, "a1 c2 e8 g9"},
		{"puts and deletes ahead", "", "", func(x *table.Table[int]) { x.Put("d", 9); x.Delete("d") }, "a1 c2 e3 g4"},
		{"deletes all", "", "", func(x *table.Table[int]) {
			for _, k := range []string{"a", "c", "e", "g"} {
				x.Delete(k)
			}
		}, "a1 c2"},
		{"deletes all and puts others", "", "", func(x *table.Table[int]) {
			for _, k := range []string{"a", "c", "e", "g"} {
				x.Delete(k)
			}
			x.Put("b", 8)
			x.Put("d", 9)
		}, "a1 c2 d9"},
		{"puts up to the bound", "b", "f", func(x *table.Table[int]) { x.Put("f", 8); x.Put("f\x00", 9) }, "c2 e3 f8"},
		{"puts beyond the bound", "b", "f", func(x *table.Table[int]) { x.Put("ff", 9) }, "c2 e3"},
		{"puts behind the beginning", "c", "e", func(x *table.Table[int]) { x.Put("b", 8); x.Put("d", 9) }, "c2 d9 e3"},
		{"deletes the bound", "c", "e", func(x *table.Table[int]) { x.Delete("e") }, "c2"},
	} {
		x := filled("a", "c", "e", "g")
		var told []string
		for k, v := range x.Range(c.from, c.to) {
			told = append(told, fmt.Sprint(k, v))
			if k == "c" {
				c.body(x)
			}
		}
		if got := strings.Join(told, " "); got != c.want {
			t.Errorf("P8.5: a body that %s: %q, not %q", c.name, got, c.want)
		}
	}
}

// P8.5: a body that always puts one more key just ahead sees each of them; one that deletes what it is handed empties the table.
func TestRangeFeeds(t *testing.T) {
	x := filled("a")
	n := 0
	for k, v := range x.Range("", "") {
		if k != strings.Repeat("a", n+1) || v != n+1 {
			t.Fatalf("P8.5: %q %d", k, v)
		}
		if n++; n < 500 {
			x.Put(k+"a", n+1)
		}
	}
	if n != 500 || x.Len() != 500 {
		t.Errorf("P8.5: %d, %d", n, x.Len())
	}
	for k := range x.Range("", "") {
		x.Delete(k)
		n--
	}
	if n != 0 || x.Len() != 0 {
		t.Errorf("P8.5: %d, %d", n, x.Len())
	}
}

// P8.5, W1: a body that stops is called no more, and what it has written stays.
func TestRangeStops(t *testing.T) {
	keys := []string{"", "a", "b", "c"}
	x := filled(keys...)
	for n := range len(keys) {
		calls := 0
		x.Range("", "")(func(k string, v int) bool {
			if k != keys[calls] || v != calls+1 {
				t.Errorf("P8.5: %q %d", k, v)
			}
			x.Put("d", 9)
			calls++
			return calls <= n
		})
		if calls != n+1 {
			t.Errorf("W1: told to stop at %d, called %d times", n+1, calls)
		}
		if v, ok := x.Delete("d"); v != 9 || !ok {
			t.Errorf("P8.5: %d, %v", v, ok)
		}
	}
}

// P8.5: an iterator is gone through from the beginning each time, as the table is then.
func TestRangeAgain(t *testing.T) {
	x := table.New[int]()
	seq := x.Range("b", "d")
	goes := func(want ...pair) {
		t.Helper()
		var got []pair
		for k, v := range seq {
			got = append(got, pair{k, v})
		}
		if !slices.Equal(got, want) {
			t.Errorf("P8.5: %v, not %v", got, want)
		}
	}
	goes()
	x.Put("a", 1)
	x.Put("b", 2)
	x.Put("d", 4)
	x.Put("e", 5)
	goes(pair{"b", 2}, pair{"d", 4})
	goes(pair{"b", 2}, pair{"d", 4})
	for range seq {
		break
	}
	goes(pair{"b", 2}, pair{"d", 4})
	x.Delete("b")
	x.Put("c", 3)
	goes(pair{"c", 3}, pair{"d", 4})
	x.Delete("c")
	x.Delete("d")
	goes()
}

// P8.5: loops of one iterator one inside another do not know of each other.
func TestRangeNested(t *testing.T) {
	x := filled("a", "b", "c")
	seq := x.Range("", "")
	var told []string
	for a := range seq {
		for b := range seq {
			if b == "c" && a == "b" {
				break
			}
			for c := range seq {
				told = append(told, a+b+c)
			}
		}
	}
	want := "aaa aab aac aba abb abc aca acb acc baa bab bac bba bbb bbc caa cab cac cba cbb cbc cca ccb ccc"
	if got := strings.Join(told, " "); got != want {
		t.Errorf("P8.5: %s", got)
	}
}

// P8.5: the inner loop's writes are seen by the outer one, and the other way round.
func TestRangeNestedWrites(t *testing.T) {
	x := filled("a", "b", "c")
	seq := x.Range("", "")
	var told []string
	for a := range seq {
		told = append(told, a+":")
		for b := range seq {
			told = append(told, b)
			if a == "a" && b == "b" {
				x.Delete("b")
				x.Put("d", 4)
			}
		}
		x.Delete(a)
	}
	if got := strings.Join(told, " "); got != "a: a b c d c: c d d: d" || x.Len() != 0 {
		t.Errorf("P8.5: %s", got)
	}
}

// P8.5: what others than the body write between two steps is seen.
func TestRangePulled(t *testing.T) {
	x := filled("b", "d", "f")
	next, stop := iter.Pull2(x.Range("a", "y"))
	defer stop()
	is := func(want string, has int) {
		t.Helper()
		if k, v, ok := next(); k != want || v != has || ok != (want != "") {
			t.Errorf("P8.5: %q %d %v, not %q %d", k, v, ok, want, has)
		}
	}
	x.Put("a", 7)
	is("a", 7)
	x.Put("aa", 8)
	is("aa", 8)
	x.Delete("b")
	x.Put("d", 9)
	is("d", 9)
	x.Delete("d")
	x.Put("c", 1)
	is("f", 3)
	x.Put("e", 1)
	x.Put("y", 5)
	x.Put("z", 6)
	is("y", 5)
	x.Put("yy", 6)
	is("", 0)
}

// P8.5: two iterators pulled by turns, while the table is written to.
func TestRangePulledByTurns(t *testing.T) {
	x := filled("a", "b", "c", "d")
	seq := x.Range("", "")
	one, stopOne := iter.Pull2(seq)
	defer stopOne()
	two, stopTwo := iter.Pull2(seq)
	defer stopTwo()
	is := func(next func() (string, int, bool), want string, has int) {
		t.Helper()
		if k, v, ok := next(); k != want || v != has || ok != (want != "") {
			t.Errorf("P8.5: %q %d %v, not %q %d", k, v, ok, want, has)
		}
	}
	is(one, "a", 1)
	is(one, "b", 2)
	is(two, "a", 1)
	x.Delete("b")
	is(two, "c", 3)
	is(one, "c", 3)
	x.Put("d", 9)
	is(one, "d", 9)
	is(one, "", 0)
	is(two, "d", 9)
	x.Put("e", 5)
	is(one, "", 0)
	is(two, "e", 5)
	is(two, "", 0)
}

// body is one that writes by what chance says, the same on both tables, and goes through the table inside the loop too.
func body(x either, r *rand.Rand, keys []string, depth int, told *[]string) func(string, int) bool {
	return func(k string, v int) bool {
		*told = append(*told, fmt.Sprintf("%d %q %d", depth, k, v))
		for range r.Intn(4) {
			at := keys[r.Intn(len(keys))]
			if r.Intn(3) == 0 {
				at = k
			}
			var had int
			var was bool
			if r.Intn(2) == 0 {
				had, was = x.put(at, r.Intn(1000))
			} else {
				had, was = x.delete(at)
			}
			*told = append(*told, fmt.Sprintf("%q had %d, %v", at, had, was))
		}
		if depth < 2 && r.Intn(4) == 0 {
			x.rangeOver(keys[r.Intn(len(keys))], keys[r.Intn(len(keys))], body(x, r, keys, depth+1, told))
		}
		return r.Intn(20) > 0
	}
}

// P8.5, W7: loops at random that write to the table and stand one inside another, held against the chapter's words.
func TestRangeAgainstWords(t *testing.T) {
	for seed := range int64(400) {
		var keys []string
		r := rand.New(rand.NewSource(seed))
		for range 25 {
			keys = append(keys, string([]byte{byte(r.Intn(4)), byte(r.Intn(4)), byte(r.Intn(4))}[:r.Intn(4)]))
		}
		x, s := table.New[int](), &slow{}
		for i, k := range keys[:r.Intn(25)] {
			x.Put(k, i)
			s.put(k, i)
		}
		run := func(e either) []string {
			var told []string
			r := rand.New(rand.NewSource(seed))
			for range 6 {
				e.rangeOver(keys[r.Intn(len(keys))], keys[r.Intn(len(keys))], body(e, r, keys, 0, &told))
				e.rangeOver("", "", body(e, r, keys, 0, &told))
			}
			return told
		}
		got, want := run(quick{x}), run(s)
		if !slices.Equal(got, want) {
			t.Fatalf("P8.5: seed %d: %q, not %q", seed, got, want)
		}
		same(t, x, s, keys)
	}
}

// P8.7: keys that nobody touches are handed on just if they are there and between from and to; no key twice.
func TestRangeUntouched(t *testing.T) {
	r := rand.New(rand.NewSource(87))
	name := func(i int) string { return fmt.Sprintf("%03d", i) }
	for range 60 {
		const many = 200
		x, there := table.New[int](), map[string]int{}
		for i := range many {
			if r.Intn(2) == 0 {
				x.Put(name(i), i)
				there[name(i)] = 1
			}
		}
		from, to := name(r.Intn(many/2)), name(many/2+r.Intn(many/2))
		touched, times, last := map[string]int{}, map[string]int{}, ""
		for k := range x.Range(from, to) {
			times[k]++
			if k <= last || k < from || k > to {
				t.Fatalf("P8.7: %q behind %q, from %q to %q", k, last, from, to)
			}
			last = k
			for range 3 {
				// The keys that 3 divides are let alone.
				at := name(r.Intn(many/3)*3 + 1 + r.Intn(2))
				touched[at]++
				if r.Intn(2) == 0 {
					x.Put(at, 1)
				} else {
					x.Delete(at)
				}
			}
		}
		for i := range many {
			k := name(i)
			if times[k] > 1 {
				t.Fatalf("P8.7: %q is handed on %d times", k, times[k])
			}
			want := there[k]
			if k < from || k > to {
				want = 0
			}
			if touched[k] == 0 && times[k] != want {
				t.Fatalf("P8.7: %q is handed on %d times, not %d", k, times[k], want)
			}
		}
	}
}

// P8.7: a key that is taken away and put again at each step is handed on once.
func TestRangeNotTwice(t *testing.T) {
	x := filled("a", "b", "c", "d", "e")
	var keys []string
	for k := range x.Range("", "") {
		keys = append(keys, k)
		for _, k := range []string{"e", "c", "a", "b", "d"} {
			x.Delete(k)
		}
		for i, k := range []string{"d", "a", "e", "b", "c"} {
			x.Put(k, i)
		}
	}
	if !slices.Equal(keys, []string{"a", "b", "c", "d", "e"}) {
		t.Errorf("P8.7: %q", keys)
	}
}

// P8.8: loops through two tables of one type, each writing to the other.
func TestRangeApart(t *testing.T) {
	x, y := filled("a", "b", "c"), filled("b", "d")
	var told []string
	for k := range x.Range("", "") {
		told = append(told, k)
		y.Delete(k)
		y.Put(k+"y", 1)
		for k := range y.Range("", "") {
			told = append(told, k)
		}
	}
	if got := strings.Join(told, " "); got != "a ay b d b ay by d c ay by cy d" {
		t.Errorf("P8.8: %s", got)
	}
	if x.Len() != 3 || y.Len() != 4 {
		t.Errorf("P8.8: %d, %d", x.Len(), y.Len())
	}
}
