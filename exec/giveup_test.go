package exec_test

import (
	"strconv"
	"strings"
	"testing"

	"treadle/api"
	"treadle/exec"
)

// notKeys are registers' values that are no key, and the status that each has where one is wanted.
func notKeys() []struct{ value, status string } {
	return []struct{ value, status string }{
		{`none`, "kind"}, {`0`, "kind"}, {`-7`, "kind"}, {`97`, "kind"},
		{`""`, "key"}, {`"` + long(65) + `"`, "key"}, {`"` + long(256) + `"`, "key"},
	}
}

// P10.2: where a key is wanted, a register without a text, and a text that is no key.
func TestKeyWanted(t *testing.T) {
	for _, bad := range notKeys() {
		set := "set r1 " + bad.value + " / "
		for _, op := range []string{"get r0 r1", "put r1 r0", "put r1 r1", "del r1"} {
			meet(t, "P10.2", []call{
				{abce, set + op, bad.status + " at 1"},
				{abce, "tell r0 / " + set + op + " / stop", bad.status + " at 2"},
			})
		}
		for _, op := range []string{"sum r0 r1 r2 1", "count r0 r1 r2 1", "sum r0 r2 r1 64", "count r0 r2 r1 64", "next r0 r1"} {
			if bad.value != "none" {
				meet(t, "P10.2", []call{{abce, set + op, bad.status + " at 1"}})
			}
		}
	}
	for _, key := range []string{`"` + long(64) + `"`, `"\x00"`, `"\xff"`} {
		for _, op := range []string{"get r0 r1", "put r1 r0", "put r1 r1", "del r1", "sum r0 r1 r2 1", "sum r0 r2 r1 64", "count r0 r1 r2 1", "count r0 r2 r1 64", "next r0 r1"} {
			e := agrees(t, stateOf(`a=1 z=2`), codeOf(t, 0, "set r1 "+key+" / "+op), nil)
			if e.Outcome.Status != api.StatusDone {
				t.Errorf("P10.2: %s of %s: %s", op, key, said(e))
			}
		}
	}
}

// P10.2: of two bounds that are none the one in B decides; of the registers of OpPut the one in A.
func TestWhichFirst(t *testing.T) {
	for _, b := range notKeys()[1:] {
		for _, c := range notKeys()[1:] {
			set := "set r1 " + b.value + " / set r2 " + c.value + " / "
			meet(t, "P10.2", []call{
				{abce, set + "sum r0 r1 r2 1", b.status + " at 2"},
				{abce, set + "count r0 r1 r2 1", b.status + " at 2"},
				{abce, set + "sum r0 r2 r1 1", c.status + " at 2"},
				{abce, set + "put r1 r2", b.status + " at 2"},
				{abce, set + "put r2 r1", c.status + " at 2"},
			})
		}
	}
	meet(t, "P10.2", []call{
		{abce, `set r1 "z" / set r2 "" / sum r0 r1 r2 1`, `key at 2`},
		{abce, `set r1 "z" / set r2 5 / count r0 r1 r2 1`, `kind at 2`},
		{abce, `set r1 "" / set r2 "a" / count r0 r1 r2 1`, `key at 2`},
		{abce, `set r1 "z" / put r1 r2 / set r2 5 / put r1 r2`, `done; writes z=5`},
	})
}

// P10.2: chapter 5's errors, at each operation that reckons.
func TestReckoning(t *testing.T) {
	values := []string{`none`, `1`, `""`, `"7"`}
	for _, op := range []string{"add", "sub", "mul", "join"} {
		for _, b := range values {
			for _, c := range values {
				none := b == "none" || c == "none"
				texts := strings.HasPrefix(b, `"`) || strings.HasPrefix(c, `"`)
				p := codeOf(t, 0, "set r1 "+b+" / set r2 "+c+" / tell r2 / "+op+" r0 r1 r2")
				e, want := agrees(t, nil, p, nil), "kind at 3"
				if !none && (op == "join" || !texts) {
					want = "done; told " + c
				}
				if said(e) != want {
					t.Errorf("P10.2: %s of %s and %s: %s", op, b, c, said(e))
				}
			}
		}
	}
	const most, least = "9223372036854775807", "-9223372036854775808"
	meet(t, "P10.2", []call{
		{``, `set r1 ` + most + ` / set r2 1 / add r0 r1 r2`, `range at 2`},
		{``, `set r1 ` + most + ` / set r2 -1 / add r0 r1 r2 / tell r0`, `done; told 9223372036854775806`},
		{``, `set r1 ` + least + ` / set r2 1 / sub r0 r1 r2`, `range at 2`},
		{``, `set r1 ` + least + ` / set r2 -1 / mul r0 r1 r2`, `range at 2`},
		{``, `set r1 ` + least + ` / set r2 1 / mul r0 r1 r2 / tell r0`, `done; told ` + least},
		{``, `set r1 "` + long(256) + `" / set r2 "" / join r0 r1 r2 / join r0 r2 r1`, `done`},
		{``, `set r1 "` + long(256) + `" / set r2 "a" / join r0 r1 r2`, `long at 2`},
		{``, `set r1 "` + long(255) + `" / set r2 10 / join r0 r2 r1`, `long at 2`},
		{``, `set r1 "` + long(255) + `" / set r2 1 / join r0 r2 r1`, `done`},
		{``, `set r1 "` + long(256) + `" / join r0 r1 r2`, `kind at 1`},
	})
}

// P10.2: OpSum gives up at the key where a partial sum is out of range, or which has a text, however well it might end.
func TestSumGivesUp(t *testing.T) {
	const great, small = `a=9223372036854775807 b=1 c=-2 d="x"`, `a=-1 b=-9223372036854775808 c=5`
	meet(t, "P10.2", []call{
		{great, `sum r0 r1 r1 64`, `range at 0; looks ..b`},
		{great, `sum r0 r1 r1 2`, `range at 0; looks ..b`},
		{great, `sum r0 r1 r1 1 / tell r0`, `done; told 9223372036854775807; looks ..a`},
		{great, `set r2 "b" / sum r0 r1 r2 64`, `range at 1; looks ..b`},
		{great, `set r2 "c" / sum r0 r1 r2 64`, `range at 1; looks ..b`},
		{great, `set r2 "a" / sum r0 r1 r2 64 / tell r0`, `done; told 9223372036854775807; looks ..a`},
		{great, `set r1 "b" / set r2 "c" / sum r0 r1 r2 64 / tell r0`, `done; told -1; looks b..c`},
		{great, `set r1 "b" / sum r0 r1 r2 64`, `kind at 1; looks b..d`},
		{great, `set r1 "b" / sum r0 r1 r2 3`, `kind at 1; looks b..d`},
		{great, `set r1 "b" / sum r0 r1 r2 2 / tell r0`, `done; told -1; looks b..c`},
		{great, `set r1 "d" / sum r0 r1 r2 1`, `kind at 1; looks d..d`},
		{great, `set r1 "cc" / set r2 "zz" / sum r0 r1 r2 1`, `kind at 2; looks cc..d`},
		{great, `count r0 r1 r1 64 / tell r0`, `done; told 4; looks ..`},
		{small, `sum r0 r1 r1 64`, `range at 0; looks ..b`},
		{small, `set r1 "aa" / sum r0 r1 r2 64 / tell r0`, `done; told -9223372036854775803; looks aa..`},
		{`a=1 b="" c=3`, `sum r0 r1 r1 64`, `kind at 0; looks ..b`},
		{`a="1"`, `sum r0 r1 r1 64`, `kind at 0; looks ..a`},
	})
}

// P10.2: StatusNeed, and its place.
func TestNeed(t *testing.T) {
	meet(t, "P10.2", []call{
		{abce, `need r0 != r0`, `need at 0`},
		{abce, `set r0 "a" / get r1 r0 / need r1 > r1 / put r2 r2`, `need at 2; looks a..a`},
		{abce, `set r0 "a" / get r1 r0 / need r1 >= r1 / put r2 r2`, `kind at 3; looks a..a`},
		{abce, `skip 2 r0 = r0 / put r0 r0 / put r0 r0 / need r0 < r0`, `need at 3`},
	})
}

// P10.2: as many values as a call can tell; one more instruction makes it no procedure.
func TestMaxTold(t *testing.T) {
	for n := range 67 {
		var p api.Proc
		p.Name = "p"
		for range n {
			p.Code = append(p.Code, api.Instr{Op: api.OpTell, A: n % 16})
		}
		e := agrees(t, nil, p, nil)
		if n <= 64 && (e.Outcome.Status != api.StatusDone || len(e.Outcome.Told) != n) || n > 64 && !same(e, api.Effect{}) {
			t.Errorf("P10.2: %d values told: %s", n, said(e))
		}
	}
}

// P10.3: what is told and written by a call that is done, in what order, and nothing of one that gave up.
func TestEffect(t *testing.T) {
	six := `set r0 "b" / set r1 "a" / set r2 1 / tell r2 / put r0 r2 / put r1 r0 / set r2 2 / put r0 r2 / tell r1 / tell r2`
	meet(t, "P10.3", []call{
		{``, six, `done; told 1, "a", 2; writes a="b", b=2`},
		{``, six + ` / need r0 = r1`, `need at 10`},
		{abce, six + ` / put r2 r2`, `kind at 10`},
		{abce, `set r0 "a" / get r1 r0 / tell r1 / put r0 r0 / next r0 r0 / get r1 r0 / del r0 / get r1 r0 / put r1 r1`,
			`kind at 8; looks a..a, a\x00..b, b..b`},
		// written twice; written and deleted; deleted and written again; deleted twice
		{abce, `set r0 "a" / set r1 8 / put r0 r1 / set r1 9 / put r0 r1`, `done; writes a=9`},
		{abce, `set r0 "a" / set r1 8 / put r0 r1 / del r0`, `done; writes a=none`},
		{abce, `set r0 "a" / set r1 8 / put r0 r1 / put r0 r5`, `done; writes a=none`},
		{abce, `set r0 "z" / set r1 8 / put r0 r1 / del r0`, `done; writes z=none`},
		{abce, `set r0 "a" / set r1 8 / del r0 / put r0 r1`, `done; writes a=8`},
		{abce, `set r0 "a" / del r0 / del r0`, `done; writes a=none`},
		// with what they had, which may be nothing
		{abce, `set r0 "a" / get r1 r0 / put r0 r1`, `done; writes a=1; looks a..a`},
		{abce, `set r0 "c" / set r1 "x" / put r0 r1`, `done; writes c="x"`},
		{abce, `set r0 "d" / del r0`, `done; writes d=none`},
		// what was laid is what the register had then
		{``, `set r0 "k" / set r1 1 / put r0 r1 / tell r1 / set r1 2 / set r0 "l"`, `done; told 1; writes k=1`},
		// byte by byte, a text ahead of what it is the beginning of
		{``, `set r0 "b" / del r0 / set r0 "a\x00" / del r0 / set r0 "\xff" / del r0 / set r0 "a" / del r0 / set r0 "ab" / del r0 / set r0 "B" / del r0 / set r0 "\x00" / del r0`,
			`done; writes \x00=none, B=none, a=none, a\x00=none, ab=none, b=none, \xff=none`},
	})
}

// P10.3, P10.7: many keys, each once, in their order, every time.
func TestManyWrites(t *testing.T) {
	lines, want := []string{`set r0 "k"`, `set r1 "y"`}, "done; writes "
	for i := range 31 {
		lines = append(lines, "join r0 r0 r1", []string{"put r0 r1", "del r0"}[i%2])
		want += "k" + strings.Repeat("y", i+1) + []string{`="y", `, `=none, `}[i%2]
	}
	p := codeOf(t, 0, strings.Join(lines, "/"))
	for range 20 {
		if s := said(exec.Run(nil, p, nil)); s != strings.TrimSuffix(want, ", ") {
			t.Fatalf("P10.3: %s", s)
		}
	}
	var falling []string
	for i := range 16 {
		falling = append(falling, "set r"+strconv.Itoa(i)+` "`+string(rune('z'-i))+`"`, "put r"+strconv.Itoa(i)+" r0")
	}
	meet(t, "P10.3", []call{{abce, strings.Join(falling, "/"),
		`done; writes k="z", l="z", m="z", n="z", o="z", p="z", q="z", r="z", s="z", t="z", u="z", v="z", w="z", x="z", y="z", z="z"`}})
}

// P10.4: looks in their order, with doubles, up to the instruction that gave up, that one too.
func TestLooks(t *testing.T) {
	meet(t, "P10.4", []call{
		{abce, `set r0 "a" / get r1 r0 / get r1 r0 / set r2 "z" / get r1 r2 / get r1 r0`, `done; looks a..a, a..a, z..z, a..a`},
		{abce, `set r0 "a" / get r1 r0 / put r0 r1 / get r1 r0 / set r0 "b" / get r1 r0 / get r1 r0`, `done; writes a=1; looks a..a, b..b, b..b`},
		{abce, `set r0 "b" / set r1 "a" / next r2 r0 / next r2 r1 / next r2 r1 / count r3 r1 r0 1 / count r3 r1 r0 1 / get r3 r1`,
			`done; looks b\x00..c, a\x00..b, a\x00..b, a..a, a..a, a..a`},
		{abce, `next r2 r0 / next r2 r2 / sum r3 r2 r4 64 / tell r3`, `kind at 2; looks ..a, a\x00..b, b..c`},
		{abce, `set r0 "a" / get r1 r0 / set r0 "" / get r1 r0`, `key at 3; looks a..a`},
		{abce, `set r0 "a" / get r1 r0 / next r1 r1`, `kind at 2; looks a..a`},
		{abce, `set r0 "a" / get r1 r0 / sum r2 r0 r1 64`, `kind at 2; looks a..a`},
		{abce, `set r0 "a" / get r1 r0 / sum r2 r1 r0 64`, `kind at 2; looks a..a`},
		{abce, `set r0 "c" / set r1 "b" / sum r2 r0 r1 64 / count r3 r0 r1 64 / tell r2 / tell r3`, `done; told 0, 0`},
		{abce, `set r0 "a" / skip 1 r0 = r0 / get r1 r0 / next r1 r0`, `done; looks a\x00..b`},
		{abce, `set r0 "a" / get r1 r0 / stop / get r1 r0`, `done; looks a..a`},
		{abce, `set r0 "e" / set r1 "e" / sum r2 r0 r1 1 / count r2 r0 r1 2 / sum r2 r0 r5 1 / count r2 r0 r5 2`, `done; looks e..e, e..e, e..e, e..`},
		{abce, `set r0 "a" / set r1 "z" / sum r2 r0 r1 64`, `kind at 2; looks a..c`},
		{abce, `set r0 "a" / set r1 "z" / count r2 r0 r1 64 / count r2 r0 r1 4 / count r2 r0 r1 3`, `done; looks a..z, a..e, a..c`},
	})
}
