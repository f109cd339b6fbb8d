package exec_test

import (
	"slices"
	"testing"

	"treadle/api"
	"treadle/exec"
)

// watched is a state that keeps what it was asked.
type watched struct {
	state
	gets, nexts []string
	written     int
}

func (w *watched) Get(key string) (api.Value, bool) {
	w.gets = append(w.gets, key)
	return w.state.Get(key)
}

func (w *watched) Next(above string) (string, bool) {
	w.nexts = append(w.nexts, above)
	return w.state.Next(above)
}

// What a store has beside Get and Next, and nobody may ask.
func (w *watched) Put(string, api.Value) { w.written++ }
func (w *watched) Delete(string)         { w.written++ }
func (w *watched) Len() int              { w.written++; return 0 }

func (w *watched) asked() int { return len(w.gets) + len(w.nexts) }

// covered tells whether the key or, of a Next, what stands next above it lies within a look.
func covered(looks []api.Span, from string) bool {
	return slices.ContainsFunc(looks, func(l api.Span) bool { return l.From <= from && (l.To == "" || from <= l.To) })
}

// within holds what a View was asked against the looks that the call tells of: nothing else is asked.
func (w *watched) within(t *testing.T, e api.Effect) {
	t.Helper()
	for _, key := range w.gets {
		if !covered(e.Looks, key) {
			t.Errorf("P10.4: Get(%q) is within no look: %s", key, said(e))
		}
	}
	for _, above := range w.nexts {
		if !covered(e.Looks, above+"\x00") && !(above == "" && covered(e.Looks, "")) {
			t.Errorf("P10.4: Next(%q) is within no look: %s", above, said(e))
		}
	}
	if w.written != 0 {
		t.Errorf("P10.5: the View is asked for more than Get and Next")
	}
}

// P10.5: what of a View is asked, and that nothing is asked that a look does not tell of.
func TestAsked(t *testing.T) {
	type list = []string
	for _, c := range []struct {
		code        string
		gets, nexts list
	}{
		{`set r0 "a" / get r1 r0`, list{"a"}, nil},
		{`set r0 "a" / put r0 r0 / get r1 r0`, nil, nil},
		{`set r0 "a" / del r0 / get r1 r0 / put r0 r0 / tell r0`, nil, nil},
		{`set r0 "" / get r1 r0`, nil, nil},
		{`set r0 "a" / next r1 r0`, nil, list{"a"}},
		{`next r1 r0`, nil, list{""}},
		{`set r0 "" / next r1 r0`, nil, nil},
		{`set r0 "b" / del r0 / set r0 "a" / next r1 r0`, nil, list{"a", "b"}},
		{`set r0 "b" / put r0 r0 / set r0 "a" / next r1 r0`, nil, list{"a"}},
		{`count r1 r0 r0 1`, nil, list{""}},
		{`set r0 "a" / count r1 r0 r0 64`, list{"a"}, nil},
		{`set r0 "a" / count r1 r0 r2 1`, list{"a"}, nil},
		{`set r0 "a" / put r0 r0 / count r1 r0 r0 64 / count r1 r0 r2 1`, nil, nil},
		{`set r0 "a" / set r1 "b" / count r2 r0 r1 64`, list{"a"}, list{"a"}},
		{`set r0 "a" / set r1 "b" / del r1 / count r2 r0 r1 64`, list{"a"}, list{"a"}},
		{`set r0 "b" / set r1 "a" / count r2 r0 r1 64 / sum r2 r0 r1 64`, nil, nil},
		{`set r0 "a" / set r1 "" / count r2 r0 r1 64`, nil, nil},
	} {
		w := &watched{state: stateOf(abce)}
		e := exec.Run(w, codeOf(t, 0, c.code), nil)
		if !slices.Equal(w.gets, c.gets) || !slices.Equal(w.nexts, c.nexts) {
			t.Errorf("P10.5: %s: Get of %q, Next of %q", c.code, w.gets, w.nexts)
		}
		w.within(t, e)
		if !slices.Equal(w.state, stateOf(abce)) {
			t.Errorf("P10.5: %s: the state is %v", c.code, w.state)
		}
	}
}

// P10.1: a key has nothing if Get says so, whatever it says beside that; and so of Next.
func TestHasNothing(t *testing.T) {
	v := &odd{
		get:  func(string) (api.Value, bool) { return num(5), false },
		next: func(string) (string, bool) { return "z", false },
	}
	p := codeOf(t, 0, `set r0 "a" / get r1 r0 / tell r1 / next r1 r0 / tell r1 / count r1 r0 r0 9 / tell r1 / sum r1 r0 r2 9 / tell r1`)
	if e := exec.Run(v, p, nil); said(e) != `done; told none, none, 0, 0; looks a..a, a\x00.., a..a, a..` {
		t.Errorf("P10.1: %s", said(e))
	}
}

// odd is a View that does not hold together.
type odd struct {
	get  func(key string) (api.Value, bool)
	next func(above string) (string, bool)
}

func (o *odd) Get(key string) (api.Value, bool) { return o.get(key) }
func (o *odd) Next(above string) (string, bool) { return o.next(above) }

// odds are Views that lie, go round, never end, answer what is no value, or panic.
func odds() []exec.View {
	gets := []func(string) (api.Value, bool){
		func(string) (api.Value, bool) { return nothing, false },
		func(string) (api.Value, bool) { return nothing, true },
		func(string) (api.Value, bool) { return num(5), false },
		func(string) (api.Value, bool) { return num(5), true },
		func(string) (api.Value, bool) { return api.Value{Kind: 9, Int: 1, Text: "x"}, true },
		func(string) (api.Value, bool) { return text(long(1000)), true },
		func(string) (api.Value, bool) { panic("get") },
		func(string) (api.Value, bool) { panic(api.ErrIO) },
	}
	nexts := []func(string) (string, bool){
		func(string) (string, bool) { return "", false },
		func(string) (string, bool) { return "", true },
		func(string) (string, bool) { return "a", true },
		func(string) (string, bool) { return "b", false },
		func(above string) (string, bool) { return above, true },
		func(above string) (string, bool) { return above[:len(above)/2], true },
		func(above string) (string, bool) { return above + "\x00", true },
		func(above string) (string, bool) { return above + long(300), true },
		func(string) (string, bool) { panic("next") },
	}
	out := []exec.View{(*odd)(nil), &odd{}, (*watched)(nil)}
	for _, get := range gets {
		for _, next := range nexts {
			out = append(out, &odd{get: get, next: next})
		}
	}
	return out
}

// W1: of any View a call ends and does not panic.
func TestOddViews(t *testing.T) {
	for _, v := range odds() {
		for _, code := range []string{
			`set r0 "a" / get r1 r0 / tell r1 / put r0 r1 / next r2 r0 / tell r2 / put r0 r2`,
			`next r0 r1 / del r0 / next r2 r1 / next r3 r0 / del r2 / next r4 r1 / tell r4`,
			`set r0 "a" / del r0 / next r1 r2 / next r1 r0 / count r3 r0 r2 64 / count r3 r2 r0 64 / tell r3`,
			`count r0 r1 r1 64 / tell r0 / sum r0 r1 r1 64 / tell r0`,
			`set r1 "a" / set r2 "b" / count r0 r1 r2 64 / put r1 r0 / sum r0 r1 r2 64 / get r3 r2 / join r3 r3 r3 / put r2 r3`,
		} {
			exec.Run(v, codeOf(t, 0, code), nil)
		}
	}
}

// W1, W3: what a View panics with stays inside; of such a call nothing is told.
func TestPanickingView(t *testing.T) {
	v := &odd{
		get:  func(string) (api.Value, bool) { panic("get") },
		next: func(string) (string, bool) { panic("next") },
	}
	for _, op := range []string{"get r1 r0", "next r1 r0", "count r1 r2 r2 1", "sum r1 r0 r2 1"} {
		e := exec.Run(v, codeOf(t, 0, `set r0 "a" / set r3 "z" / put r3 r3 / tell r0 / `+op), nil)
		if !same(e, api.Effect{}) {
			t.Errorf("W1: %s: %s", op, said(e))
		}
	}
}
