package engine_test

import (
	"math"
	"slices"
	"strings"
	"testing"

	"treadle/api"
	"treadle/engine"
)

// shelf is an Engine with keys of many forms.
func shelf(t testing.TB) (world, []api.Entry) {
	w := fresh(t)
	long := strings.Repeat("\xff", 64)
	keys := []string{"\x00", "\x00\x00", "A", "a", "a\x00", "aa", "ab", "b", strings.Repeat("x", 64), "\x80", long}
	values := []api.Value{num(0), text(""), num(math.MinInt64), num(math.MaxInt64), text("\x00\xff"), text(strings.Repeat("t", 256)), num(-1)}
	txns := []api.Txn{define("proc put 2", "arg r0 0", "arg r1 1", "put r0 r1")}
	var want []api.Entry
	for i, key := range keys {
		v := values[i%len(values)]
		want = append(want, api.Entry{Key: key, Value: v})
		txns = append(txns, call("put", text(key), v))
	}
	slices.Reverse(txns[1:])
	txns = append(txns, call("put", text("gone"), num(1)), call("put", text("gone"), api.Value{}))
	if _, _, e := w.x.Submit(txns); e != api.OK {
		t.Fatal(e)
	}
	return w, want
}

// eachCall is a call of each kind, sound ones and others.
func eachCall() []func(*engine.Engine) api.Errno {
	return []func(*engine.Engine) api.Errno{
		submitting(), submitting(history(1)), flushing, reading("a"), reading(""), ranging("", "", 9), ranging("", "", -1),
		starting, stepping(1), stepping(0), trimming, closing,
	}
}

// P18.4: Read of each key, of what has nothing, and of what is no key.
func TestRead(t *testing.T) {
	w, all := shelf(t)
	reads := func(key string, want api.Value) {
		t.Helper()
		if v, e := w.x.Read(key); v != want || e != api.OK {
			t.Errorf("P18.4: Read(%q): %+v, %v, not %+v", key, v, e, want)
		}
	}
	for _, x := range all {
		reads(x.Key, x.Value)
	}
	for _, key := range []string{"gone", "never", "", "put", "aaa", "B", "x", strings.Repeat("x", 63), strings.Repeat("x", 65), strings.Repeat("\xff", 65), strings.Repeat("a", 70000)} {
		reads(key, api.Value{})
	}
	if w.x.Sight().Keys != len(all) || w.d.Strokes() != 0 || w.d.Reads() != 0 {
		t.Errorf("P18.9: %+v, %d strokes, %d readings", w.x.Sight(), w.d.Strokes(), w.d.Reads())
	}
}

// slowRange is the entries from one key to another, so many at most.
func slowRange(all []api.Entry, from, to string, n int) []api.Entry {
	var out []api.Entry
	for _, x := range all {
		if x.Key >= from && (to == "" || x.Key <= to) && len(out) < n {
			out = append(out, x)
		}
	}
	return out
}

// P18.4: Range with all ends, an empty to, a from above to, and each most.
func TestRange(t *testing.T) {
	w, all := shelf(t)
	ends := []string{"", "\x00", "\x00\x00", "\x01", "A", "a", "a\x00", "a\x01", "ab", "b", "gone", "z", strings.Repeat("x", 64), strings.Repeat("x", 65), strings.Repeat("\xff", 64), strings.Repeat("\xff", 65), strings.Repeat("a", 70000)}
	for _, from := range ends {
		for _, to := range ends {
			for _, n := range []int{0, 1, 2, 3, len(all) - 1, len(all), len(all) + 1, math.MaxInt} {
				l, e := w.x.Range(from, to, n)
				if want := slowRange(all, from, to, n); !slices.Equal(l, want) || e != api.OK {
					t.Errorf("P18.4: Range(%.9q, %.9q, %d): %v, %v, not %v", from, to, n, l, e, want)
				}
			}
			w.refuses("P18.4", api.ErrArg, ranging(from, to, -1), ranging(from, to, math.MinInt))
		}
	}
	if l, e := w.x.Range("b", "a", 9); len(l) != 0 || e != api.OK {
		t.Errorf("P18.4: %v, %v", l, e)
	}
	if l, e := w.x.Range("a", "a", 9); len(l) != 1 || e != api.OK {
		t.Errorf("P18.4: %v, %v", l, e)
	}
}

// P18.4: of an Engine without a key.
func TestRangeOfNothing(t *testing.T) {
	w := fresh(t)
	for _, n := range []int{0, 1, math.MaxInt} {
		if l, e := w.x.Range("", "", n); len(l) != 0 || e != api.OK {
			t.Errorf("P18.4: %v, %v", l, e)
		}
	}
	w.refuses("P18.4", api.ErrArg, ranging("", "", -1))
}

// P18.4: both of a broken Engine, and of one without power; of a closed one neither.
func TestReadBroken(t *testing.T) {
	w, all := shelf(t)
	off(t, w.d)
	if n, e := w.x.Flush(); n != 0 || e != api.ErrOff || !w.x.Sight().Broken {
		t.Fatalf("P18.3: %d, %v", n, e)
	}
	if l := entriesOf(t, w.x); !slices.Equal(l, all) {
		t.Errorf("P18.4: %v, not %v", l, all)
	}
	for _, x := range all {
		if v, e := w.x.Read(x.Key); v != x.Value || e != api.OK {
			t.Errorf("P18.4: a broken one: Read(%q): %+v, %v", x.Key, v, e)
		}
	}
	if v, e := w.x.Read("gone"); v != (api.Value{}) || e != api.OK {
		t.Errorf("P18.4: a broken one: %+v, %v", v, e)
	}
	w.refuses("P18.4", api.ErrArg, ranging("", "", -1))
	w.close()
	w.refuses("P18.4", api.ErrClosed, reading("a"), reading(""), ranging("", "", 9), ranging("", "", 0), ranging("", "", -1))
}

// P18.4: while a checkpoint is going on what is read is what was accepted, not what is held.
func TestReadWhileGoing(t *testing.T) {
	w := fresh(t)
	w.submit(1, 9)
	w.start(api.OK)
	for n := 10; n < 40; n++ {
		w.submit(n, n)
		w.has("P18.4", at(n))
		if w.x.Sight().Going {
			w.x.Step(1)
			w.has("P18.4", at(n))
		}
	}
	w.shows("P18.9", api.Sight{Next: 40, Durable: 9, Base: 9, Keys: len(at(39).values)})
}
