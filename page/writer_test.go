package page_test

import (
	"bytes"
	"math"
	"slices"
	"strings"
	"testing"

	"treadle/api"
	"treadle/page"
)

// P14.1: number and mark at each limit, one outside of it, and far outside.
func TestNew(t *testing.T) {
	edges := []int{math.MinInt, -api.MaxNumber, -2, -1, 0, 1, 2, 127, 128, 1 << 40, api.MaxNumber - 1, api.MaxNumber, api.MaxNumber + 1, 1 << 48, 1 << 50, math.MaxInt}
	taken := 0
	for _, number := range edges {
		for _, mark := range edges {
			w, e := page.New(number, mark)
			_, want := slowNew(number, mark)
			if e != want || (w != nil) != (e == api.OK) {
				t.Errorf("P14.1: New(%d, %d): %v, not %v", number, mark, e, want)
				continue
			}
			if e != api.OK {
				continue
			}
			taken++
			b := ended(t, w)
			if !bytes.Equal(b, framed(headBody(0, number, mark), endBody(1, 0, 0))) {
				t.Errorf("P14.1: New(%d, %d) gives out %x", number, mark, b)
			}
			reads(t, b, api.Image{Number: number, Mark: mark}, api.OK)
		}
	}
	if taken != 7*8 {
		t.Errorf("P14.1: %d are taken", taken)
	}
}

// P14.1 to P14.4: the chapter's own, step by step.
func TestKnown(t *testing.T) {
	for _, x := range [][2]int{{0, 0}, {1, -1}} {
		if w, e := page.New(x[0], x[1]); w != nil || e != api.ErrArg {
			t.Errorf("P14.1: New(%d, %d): %v", x[0], x[1], e)
		}
	}
	w := begun(t, 1, 7)
	refusedPage(t, w, nil, nil, api.ErrArg)
	refusedPage(t, w, nil, []api.Entry{one("a", 1), one("a", 2)}, api.ErrOrder)
	refusedPage(t, w, nil, []api.Entry{one("", 1)}, api.ErrName)
	refusedPage(t, w, nil, []api.Entry{entry("a", nothing)}, api.ErrKind)
	all := paged(t, w, nil, []api.Entry{one("a", 1)})
	head := framed(unhex("01 00 01 07"))
	if !bytes.Equal(all, slices.Concat(head, framed(unhex("03 01 01 01 61 02 01 02")))) {
		t.Errorf("P14.2: %x", all)
	}
	refusedPage(t, w, nil, []api.Entry{one("a", 2)}, api.ErrOrder)
	refusedPage(t, w, []api.Proc{put2()}, nil, api.ErrOrder)
	end := ended(t, w)
	if !bytes.Equal(end, framed(unhex("04 02 00 01"))) {
		t.Errorf("P14.3: %x", end)
	}
	refusedEnd(t, w, api.ErrOrder)
	all = append(all, end...)
	reads(t, all, api.Image{Number: 1, Mark: 7, Entries: []api.Entry{one("a", 1)}}, api.OK)
	refused(t, nil, api.ErrShort)
	refused(t, head, api.ErrShort)
	refused(t, all[:len(all)-1], api.ErrTorn)
	refused(t, append(slices.Clone(all), 0), api.ErrForm)
	reads(t, ended(t, begun(t, 2, 0)), api.Image{Number: 2}, api.OK)
}

// P14.2, P14.3: bytes written out: procedures, entries of each kind, places and lengths of more than seven digits.
func TestBytesWrittenOut(t *testing.T) {
	w := begun(t, 300, 128)
	var want []byte
	gives := func(b []byte, bodies ...string) {
		t.Helper()
		for _, s := range bodies {
			want = append(want, framed(unhex(s))...)
		}
		if !bytes.Equal(b, want) {
			t.Errorf("P14.2: %x, not %x", b, want)
		}
		want = nil
	}
	gives(paged(t, w, []api.Proc{{Name: "q"}, {Name: "r", Args: 16}}, nil), "01 00 ac 02 80 01", "02 01 04 01 71 00 00", "02 02 04 01 72 10 00")
	gives(paged(t, w, []api.Proc{{Name: "s", Code: stops(1)}}, []api.Entry{one("a", -1), entry("ab", text("")), entry("b", text("xy"))}),
		"02 03 05 01 73 00 01 10", "03 04 03 01 61 02 01 01 02 61 62 02 02 00 01 62 04 02 02 78 79")
	gives(paged(t, w, nil, []api.Entry{one("c", math.MinInt64)}), "03 05 01 01 63 0b 01 ff ff ff ff ff ff ff ff ff 01")
	gives(ended(t, w), "04 06 03 04")
	// Behind 127 procedures the place has two bytes; so have 128 entries, and a text of 256 bytes twice.
	w = begun(t, api.MaxNumber, api.MaxNumber)
	b := paged(t, w, procsFrom(0, 128), nil)
	if l := bodiesOf(b); len(l) != 129 || !bytes.Equal(l[0], unhex("01 00 ff ff ff ff ff ff 3f ff ff ff ff ff ff 3f")) || !bytes.Equal(l[128][:4], unhex("02 80 01 0b")) {
		t.Errorf("P14.2: %d frames", len(l))
	}
	entries := keysFrom(0, 127)
	entries = append(entries, entry("z", text(long(256))))
	b = paged(t, w, nil, entries)
	if l := bodiesOf(b); len(l) != 1 || !bytes.Equal(l[0][:5], unhex("03 81 01 80 01")) || !bytes.HasSuffix(l[0], slices.Concat(unhex("01 7a 83 02 02 80 02"), []byte(long(256)))) {
		t.Errorf("P14.2: %d frames", len(l))
	}
	gives(ended(t, w), "04 82 01 80 01 80 01")
}

// P14.2, P14.3, W8: a Writer that is none, a zero one, one that has ended: whatever is handed to it.
func TestNoWriter(t *testing.T) {
	bad := slices.Repeat([]api.Entry{{}}, 129)
	pieces := []piece{{}, {named("p"), nil}, {nil, ones("a")}, {named("p"), ones("a")}, {nil, bad}, {make([]api.Proc, 129), bad}, {nil, bad[:1]}, {[]api.Proc{{}}, bad[:1]}, {[]api.Proc{}, []api.Entry{}}}
	var none *page.Writer
	gone := begun(t, 1, 7)
	ended(t, gone)
	full := begun(t, 1, 7)
	paged(t, full, named("p"), ones("a"))
	ended(t, full)
	for range 2 {
		for _, p := range pieces {
			refusedPage(t, none, p.procs, p.entries, api.ErrArg)
			for _, w := range []*page.Writer{{}, new(page.Writer), gone, full} {
				refusedPage(t, w, p.procs, p.entries, api.ErrOrder)
				refusedEnd(t, w, api.ErrOrder)
			}
		}
		refusedEnd(t, none, api.ErrArg)
	}
	var zero page.Writer
	refusedEnd(t, &zero, api.ErrOrder)
	refusedPage(t, &zero, nil, ones("a"), api.ErrOrder)
}

// P14.2: none, just MaxPage of both together, and one more; the number comes ahead of what offends.
func TestHowMany(t *testing.T) {
	for procs := range 132 {
		for entries := range 132 {
			n := procs + entries
			if n > 2 && n < 127 || n > 130 && procs%13 != 0 {
				continue
			}
			p := paired(t, 1, 7)
			want := api.OK
			if n == 0 || n > 128 {
				want = api.ErrArg
			}
			p.refuses(procsFrom(0, procs), keysFrom(0, entries), want)
			if n > 128 {
				p.refuses(make([]api.Proc, procs), make([]api.Entry, entries), api.ErrArg)
			}
			p.end()
			agrees(t, p.b)
		}
	}
	p := paired(t, 1, 7)
	p.refuses(nil, nil, api.ErrArg)
	p.refuses([]api.Proc{}, []api.Entry{}, api.ErrArg)
	for _, n := range []int{129, 130, 256, 1 << 16} {
		p.refuses(make([]api.Proc, n), nil, api.ErrArg)
		p.refuses(nil, make([]api.Entry, n), api.ErrArg)
		p.refuses(procsFrom(0, n), nil, api.ErrArg)
		p.refuses(nil, keysFrom(0, n), api.ErrArg)
	}
	p.takes(nil, ones("a"))
	p.refuses(nil, nil, api.ErrArg)
	p.refuses(nil, make([]api.Entry, 129), api.ErrArg)
	p.end()
	p.refuses(nil, nil, api.ErrOrder)
}

// P14.2: the longest piece there is stands in frames.
func TestLongest(t *testing.T) {
	var procs []api.Proc
	for i := range 128 {
		name := string([]byte{'a' + byte(i/16), 'a' + byte(i%16)}) + long(30)
		procs = append(procs, api.Proc{Name: name, Code: slices.Repeat([]api.Instr{{Op: api.OpSet, A: 15, Value: text(long(256))}}, 64)})
	}
	var entries []api.Entry
	for i := range 128 {
		entries = append(entries, entry(string([]byte{byte(i)})+long(63), text(long(256))))
	}
	p := paired(t, api.MaxNumber, api.MaxNumber)
	p.takes(procs, nil)
	p.takes(nil, entries)
	p.end()
	if m, e := page.Read(p.b); e != api.OK || !same(m, api.Image{Number: api.MaxNumber, Mark: api.MaxNumber, Procs: procs, Entries: entries}) {
		t.Errorf("P14.5: %s, %v", toldImage(m), e)
	}
}

// P14.2: each fault of a procedure: alone, ahead of good ones, among them, behind them.
func TestBadProcs(t *testing.T) {
	for _, x := range badProcs("m") {
		for _, p := range []*pair{paired(t, 1, 7), behindProc(t, "a")} {
			for _, row := range [][]api.Proc{
				{x.p}, {x.p, put2()}, append(named("c", "d"), x.p), slices.Concat(named("c"), []api.Proc{x.p}, named("x")),
				{x.p, {}}, {x.p, x.p}, slices.Concat(named("c"), []api.Proc{x.p}, named("b")),
			} {
				p.refuses(row, nil, x.want)
				p.refuses(row, ones("a", "b"), x.want)
				p.refuses(row, ones("b", "a"), x.want)
				p.refuses(row, make([]api.Entry, 3), x.want)
			}
			full := procsFrom(0, 128)
			full[127] = x.p
			p.refuses(full, nil, x.want)
		}
		// Its fault comes ahead of its place: behind an entry, below the last name.
		behind := behindProc(t, "z")
		behind.refuses([]api.Proc{x.p}, nil, x.want)
		behind.takes(nil, ones("a"))
		behind.refuses([]api.Proc{x.p}, nil, x.want)
	}
}

// behindProc is a Writer that has given out a procedure of that name.
func behindProc(t testing.TB, name string) *pair {
	t.Helper()
	p := paired(t, 1, 7)
	p.takes(named(name), nil)
	return p
}

// behindEntry is a Writer that has given out an entry of that key.
func behindEntry(t testing.TB, key string) *pair {
	t.Helper()
	p := paired(t, 1, 7)
	p.takes(nil, ones(key))
	return p
}

// P14.2: each fault of an entry: alone, ahead of good ones, among them, behind them, behind procedures.
func TestBadEntries(t *testing.T) {
	for _, x := range badEntries("m") {
		for _, p := range []*pair{paired(t, 1, 7), behindProc(t, "a"), behindEntry(t, "a")} {
			for _, row := range [][]api.Entry{
				{x.x}, {x.x, one("n", 1)}, append(ones("c", "d"), x.x), slices.Concat(ones("c"), []api.Entry{x.x}, ones("x")),
				{x.x, {}}, {x.x, x.x}, slices.Concat(ones("c"), []api.Entry{x.x}, ones("b")),
			} {
				p.refuses(nil, row, x.want)
				if p.m.values == 0 {
					p.refuses(named("c", "d"), row, x.want)
				}
			}
			full := keysFrom(0, 128)
			full[127] = x.x
			p.refuses(nil, full, x.want)
		}
		// Its fault comes ahead of its place: below the last key, the same as the last key.
		behindEntry(t, "z").refuses(nil, []api.Entry{x.x}, x.want)
		behindEntry(t, "m").refuses(nil, []api.Entry{x.x}, x.want)
	}
}

// P14.2: of one entry a key that is none comes first, then what Check says, then a value that is nothing, then the order.
func TestFaultsOfOneEntry(t *testing.T) {
	p := behindEntry(t, "m")
	for _, key := range []string{"", long(65), "a", "m", "n"} {
		for _, v := range []api.Value{nothing, {Kind: 3}, text(long(257)), num(1), text("")} {
			var want api.Errno
			switch {
			case key == "" || len(key) > 64:
				want = api.ErrName
			case v == api.Value{Kind: 3}:
				want = api.ErrKind
			case len(v.Text) > 256:
				want = api.ErrLong
			case v == nothing:
				want = api.ErrKind
			case key != "n":
				want = api.ErrOrder
			default:
				continue
			}
			p.refuses(nil, []api.Entry{entry(key, v)}, want)
		}
	}
	p.takes(nil, ones("n"))
}

// P14.2: of two that offend the first one counts: of procedures, of entries, of both.
func TestFirstOffender(t *testing.T) {
	procs, entries := badProcs("m"), badEntries("m")
	procs = append(procs, badProc{api.Proc{Name: "a"}, api.ErrOrder}, badProc{api.Proc{Name: "c"}, api.ErrOrder})
	entries = append(entries, badEntry{one("a", 1), api.ErrOrder}, badEntry{one("c", 1), api.ErrOrder})
	p := paired(t, 1, 7)
	for _, x := range procs {
		for _, y := range procs {
			p.refuses(slices.Concat(named("b", "c"), []api.Proc{x.p}, named("n"), []api.Proc{y.p}), nil, x.want)
		}
		for _, y := range entries {
			p.refuses(append(named("b", "c"), x.p), []api.Entry{y.x}, x.want)
			p.refuses(append(named("b", "c"), x.p), append(ones("b", "c"), y.x), x.want)
		}
	}
	for _, x := range entries {
		for _, y := range entries {
			p.refuses(nil, slices.Concat(ones("b", "c"), []api.Entry{x.x}, ones("n"), []api.Entry{y.x}), x.want)
		}
	}
	p.takes(named("b", "c"), ones("b", "c"))
}

// orders is pairs of texts: the first one, the second one, and whether it is above.
var orders = []struct {
	a, b  string
	above bool
}{
	{"b", "b", false}, {"b", "a", false}, {"b", "c", true}, {"b", "ba", true}, {"ba", "b", false}, {"b", "az", false}, {"az", "b", true},
	{"B", "a", true}, {"a", "B", false}, {"Z", "a", true}, {"a9", "aA", true}, {"aA", "a_", true}, {"a_", "aa", true}, {"a-", "a.", true}, {"a.", "a0", true}, {"a.", "a-", false},
	{"x", long(32), true}, {long(32), "x", false}, {long(31), long(32), true}, {long(32), long(32), false}, {long(32), long(31), false},
}

// P14.2: a name that is the same as the last one, below and above it, within one piece and across pieces.
func TestNamesRise(t *testing.T) {
	for _, x := range orders {
		want := api.OK
		if !x.above {
			want = api.ErrOrder
		}
		p := paired(t, 1, 7)
		p.refuses(named(x.a, x.b), nil, want)
		if !x.above {
			p.refuses(named("A", x.a, x.b), nil, want)
			p.refuses(named("A", x.a, x.b, "z"), nil, want)
			p.refuses(named(x.a, x.b), ones("a"), want)
		}
		p = behindProc(t, x.a)
		p.refuses(named(x.b), nil, want)
		p = behindProc(t, x.a)
		p.refuses(named(x.b, "z"), ones("a"), want)
		if !x.above { // and still behind another one that was refused
			p.refuses(named(x.b), nil, want)
			p.takes(named("z"), nil)
		}
	}
	// The same name with another procedure behind it is the same name.
	behindProc(t, "put2").refuses([]api.Proc{put2()}, nil, api.ErrOrder)
}

// P14.2: a key that is the same as the last one, below and above it, within one piece and across pieces.
func TestKeysRise(t *testing.T) {
	all := slices.Clone(orders)
	for _, x := range [][2]string{{"\x00", "\x00\x00"}, {"a", "a\x00"}, {"\x7f", "\x80"}, {"z", "\xc3\xa4"}, {"\xfe\xff", "\xff"}, {long(63), long(64)}, {"\xff", strings.Repeat("\xff", 64)}, {"a\x00", "aa"}} {
		all = append(all, struct {
			a, b  string
			above bool
		}{x[0], x[1], true}, struct {
			a, b  string
			above bool
		}{x[1], x[0], false}, struct {
			a, b  string
			above bool
		}{x[0], x[0], false})
	}
	for _, x := range all {
		want := api.OK
		if !x.above {
			want = api.ErrOrder
		}
		p := paired(t, 1, 7)
		p.refuses(nil, ones(x.a, x.b), want)
		if !x.above {
			p.refuses(named("p"), ones(x.a, x.b), want)
			p.refuses(nil, append(ones(x.a, x.b), one(long(64), 1)), want)
		}
		p = behindEntry(t, x.a)
		p.refuses(nil, ones(x.b), want)
		if !x.above {
			p.refuses(nil, ones(x.b), want)
		}
		agrees(t, append(p.b, framed(endBody(len(p.m.given), 0, p.m.values))...))
	}
	// Names and keys have nothing to do with each other.
	p := paired(t, 1, 7)
	p.takes(named("m", "z"), ones("a", "b"))
	p.takes(nil, ones("m", "z"))
	p.end()
	agrees(t, p.b)
}

// P14.2: a procedure behind an entry: in one piece it stands ahead of it, in two it is refused.
func TestProcBehindEntry(t *testing.T) {
	p := paired(t, 1, 7)
	p.takes(named("a", "b"), ones("a"))
	p.refuses(named("c"), nil, api.ErrOrder)
	p.refuses(named("c"), ones("b"), api.ErrOrder)
	p.refuses(named("a"), nil, api.ErrOrder)
	p.refuses(named("c"), []api.Entry{{}}, api.ErrOrder)
	p.takes(nil, ones("b"))
	p.refuses(named("c"), nil, api.ErrOrder)
	p.end()
	agrees(t, p.b)
	// An entry that was refused does not stand ahead.
	p = paired(t, 1, 7)
	p.refuses(nil, ones("b", "a"), api.ErrOrder)
	p.takes(named("a"), nil)
	p.refuses(named("b"), ones("b", "a"), api.ErrOrder)
	p.takes(named("b"), nil)
	p.takes(named("c"), ones("a"))
	p.refuses(named("d"), nil, api.ErrOrder)
	p.end()
	agrees(t, p.b)
}

// wrongPieces is pieces that every Writer refuses, most of them behind something that it may take.
func wrongPieces() []piece {
	out := []piece{{}, {procsFrom(0, 129), nil}, {nil, keysFrom(0, 129)}, {procsFrom(0, 64), keysFrom(0, 65)},
		{named("o", "o"), nil}, {named("o", "p"), ones("o", "o")}, {named("o", "q"), ones("o", "p", "a")}, {nil, ones("o", "p", "o")}}
	for _, x := range badProcs("p") {
		out = append(out, piece{append(named("o"), x.p), nil}, piece{append(named("o"), x.p), ones("o")})
	}
	for _, x := range badEntries("p") {
		out = append(out, piece{nil, append(ones("o"), x.x)}, piece{named("o"), append(ones("o"), x.x)})
	}
	return out
}

// P14.2, W3: what a refused piece leaves: what comes next gives out the bytes that it would have given out without it.
func TestRefusedLeavesNothing(t *testing.T) {
	pieces := []piece{{named("a"), nil}, {named("b", "n"), nil}, {named("p"), ones("a")}, {nil, ones("b", "n")}, {nil, ones("p")}}
	for first := range pieces { // the procedures may be none, and the entries too
		for last := first; last <= len(pieces); last++ {
			row := pieces[first:last]
			want := written(t, 1, 7, row...)
			for _, x := range wrongPieces() {
				for at := range len(row) + 1 {
					w := begun(t, 1, 7)
					var got []byte
					for i := range len(row) + 1 {
						if i == at || at == len(row) {
							if b, e := w.Page(x.procs, x.entries); e == api.OK || len(b) > 0 {
								t.Fatalf("P14.2: Page(%s) is taken", told(x.procs, x.entries))
							}
						}
						if i < len(row) {
							got = append(got, paged(t, w, row[i].procs, row[i].entries)...)
						}
					}
					got = append(got, ended(t, w)...)
					if !bytes.Equal(got, want) {
						t.Errorf("P14.2, W3: %s, refused ahead of piece %d of %d, leaves something", told(x.procs, x.entries), at, len(row))
					}
				}
			}
		}
	}
}

// P14.3: End of a Writer that has given out nothing, of one that has, and twice.
func TestEnd(t *testing.T) {
	for _, pieces := range [][]piece{
		nil, {{named("a"), nil}}, {{nil, ones("a")}}, {{named("a"), ones("a")}}, {{named("a", "b"), nil}, {named("c"), ones("a", "b")}, {nil, ones("c")}},
		cut(procsFrom(0, 200), keysFrom(0, 300), 128), cut(nil, keysFrom(0, 130), 1),
	} {
		p := paired(t, 3, 9)
		for _, x := range pieces {
			p.takes(x.procs, x.entries)
		}
		p.end()
		agrees(t, p.b)
		for range 3 {
			p.end()
			p.refuses(named("z"), nil, api.ErrOrder)
			p.refuses(nil, nil, api.ErrOrder)
			p.refuses(nil, ones("z"), api.ErrOrder)
		}
	}
	if b := ended(t, begun(t, 1, 0)); !bytes.Equal(b, framed(unhex("01 00 01 00"), unhex("04 01 00 00"))) {
		t.Errorf("P14.3: %x", b)
	}
}

// P14.2, P14.3: random pieces, many of them refused, against the chapter's words.
func TestWriterAgainstWords(t *testing.T) {
	r := chanceOf(14)
	bads, wrong, values := badProcs("b"), badEntries("b"), badValues()
	seen := map[api.Errno]int{}
	for range 3000 {
		p := paired(t, 1+r.Intn(300), r.Intn(300))
		for range r.Intn(8) {
			procs, entries := r.procs(r.Intn(3)), r.entries(r.Intn(4))
			if r.Intn(2) == 0 {
				procs = nil
			}
			switch {
			case r.Intn(12) == 0 && len(procs) > 0:
				procs[r.Intn(len(procs))] = bads[r.Intn(len(bads))].p
			case r.Intn(12) == 0 && len(entries) > 0:
				entries[r.Intn(len(entries))] = wrong[r.Intn(len(wrong))].x
			case r.Intn(12) == 0 && len(entries) > 0:
				entries[r.Intn(len(entries))].Value = values[r.Intn(len(values))].v
			case r.Intn(12) == 0:
				slices.Reverse(entries)
			}
			seen[p.page(procs, entries)]++
			if r.Intn(30) == 0 {
				seen[p.end()]++
			}
		}
		p.end()
		if e := agrees(t, p.b); e != api.OK {
			t.Errorf("P14.5: what a Writer has given out: %v", e)
		}
	}
	for _, e := range []api.Errno{api.OK, api.ErrArg, api.ErrOrder, api.ErrName, api.ErrKind, api.ErrLong, api.ErrOp} {
		if seen[e] < 20 {
			t.Errorf("%v was met %d times", e, seen[e])
		}
	}
}
