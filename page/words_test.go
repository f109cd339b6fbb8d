package page_test

import (
	"bytes"
	"encoding/hex"
	"fmt"
	"math"
	"slices"
	"strconv"
	"strings"
	"testing"

	"treadle/api"
	"treadle/page"
)

var nothing = api.Value{}

func num(n int64) api.Value { return api.Value{Kind: api.KindInt, Int: n} }

func text(s string) api.Value { return api.Value{Kind: api.KindText, Text: s} }

// long is a text of n bytes that could stand as a name.
func long(n int) string { return strings.Repeat("x", n) }

func entry(key string, v api.Value) api.Entry { return api.Entry{Key: key, Value: v} }

func one(key string, n int64) api.Entry { return entry(key, num(n)) }

// ones is an entry for each key.
func ones(keys ...string) []api.Entry {
	var out []api.Entry
	for i, k := range keys {
		out = append(out, one(k, int64(i)))
	}
	return out
}

// named is a procedure for each name.
func named(names ...string) []api.Proc {
	var out []api.Proc
	for i, n := range names {
		out = append(out, api.Proc{Name: n, Args: i % 17, Code: stops(i % 3)})
	}
	return out
}

// keysFrom is n entries whose keys rise, from number at on.
func keysFrom(at, n int) []api.Entry {
	var out []api.Entry
	for i := range n {
		out = append(out, one(fmt.Sprintf("k%06d", at+i), int64(i)))
	}
	return out
}

// procsFrom is n procedures whose names rise, from number at on.
func procsFrom(at, n int) []api.Proc {
	var names []string
	for i := range n {
		names = append(names, fmt.Sprintf("p%06d", at+i))
	}
	return named(names...)
}

func stops(n int) []api.Instr { return slices.Repeat([]api.Instr{{Op: api.OpStop}}, n) }

func put2() api.Proc {
	return api.Proc{Name: "put2", Args: 2, Code: []api.Instr{
		{Op: api.OpArg, A: 0, N: 0},
		{Op: api.OpArg, A: 1, N: 1},
		{Op: api.OpPut, A: 0, B: 1},
		{Op: api.OpStop},
	}}
}

// someProcs is procedures of many forms, their names rising.
func someProcs() []api.Proc {
	set := func(v api.Value) api.Instr { return api.Instr{Op: api.OpSet, A: 15, Value: v} }
	return []api.Proc{
		{Name: "A"},
		{Name: "a", Args: 16},
		{Name: "a-", Code: []api.Instr{}},
		{Name: "a.9", Code: stops(64)},
		{Name: "ab", Code: slices.Repeat([]api.Instr{set(text(long(256)))}, 64)},
		put2(),
		{Name: "q", Code: []api.Instr{set(nothing), set(num(math.MinInt64)), set(text("\x00\xff"))}},
		{Name: long(31)},
		{Name: long(32), Code: []api.Instr{{Op: api.OpSkip, A: 1, B: 2, C: 3, N: 4}, {Op: api.OpSum, A: 1, B: 2, C: 3, N: 64}}},
	}
}

// someEntries is entries of many forms, their keys rising.
func someEntries() []api.Entry {
	return []api.Entry{
		entry("\x00", num(0)),
		entry("\x00\x00", num(-1)),
		entry("A", text("")),
		entry("a", text("ab")),
		entry("a\x00", num(math.MinInt64)),
		entry("ab", num(math.MaxInt64)),
		entry("b", text(long(256))),
		entry(long(63), num(64)),
		entry(long(64), text("\x00\xff")),
		entry("\x7f", num(7)),
		entry("\x80", num(8)),
		entry("ä", text("ä")),
		entry("\xff", num(9)),
		entry(strings.Repeat("\xff", 64), text(strings.Repeat("\xff", 256))),
	}
}

type badProc struct {
	p    api.Proc
	want api.Errno
}

// badProcs is procedures that chapter 6's Check refuses, of that name where the name is not what is wrong.
func badProcs(name string) []badProc {
	of := func(code ...api.Instr) api.Proc { return api.Proc{Name: name, Code: code} }
	return []badProc{
		{api.Proc{}, api.ErrName},
		{api.Proc{Name: "1p"}, api.ErrName},
		{api.Proc{Name: long(33)}, api.ErrName},
		{api.Proc{Name: name + " "}, api.ErrName},
		{api.Proc{Name: "\xff", Args: -1, Code: stops(65)}, api.ErrName},
		{api.Proc{Name: name, Args: -1}, api.ErrArg},
		{api.Proc{Name: name, Args: 17, Code: stops(65)}, api.ErrArg},
		{of(stops(65)...), api.ErrLong},
		{of(api.Instr{Op: api.OpSet, Value: text(long(257))}), api.ErrLong},
		{of(api.Instr{}), api.ErrOp},
		{of(api.Instr{Op: 17}), api.ErrOp},
		{of(api.Instr{Op: api.OpStop, A: 1}), api.ErrOp},
		{of(stops(1)[0], api.Instr{Op: api.OpTell, A: 16}), api.ErrOp},
		{of(api.Instr{Op: api.OpSet, Value: api.Value{Kind: 3}}), api.ErrKind},
		{of(stops(1)[0], api.Instr{Op: api.OpSet, Value: api.Value{Kind: 1, Text: "x"}}), api.ErrKind},
	}
}

type badValue struct {
	v    api.Value
	want api.Errno
}

// badValues is values that an entry may not have: those that chapter 5's Check refuses, and nothing.
func badValues() []badValue {
	return []badValue{
		{nothing, api.ErrKind},
		{api.Value{Kind: 3}, api.ErrKind},
		{api.Value{Kind: -1}, api.ErrKind},
		{api.Value{Kind: 257, Int: 1}, api.ErrKind},
		{api.Value{Int: 1}, api.ErrKind},
		{api.Value{Text: "x"}, api.ErrKind},
		{api.Value{Text: long(257)}, api.ErrKind},
		{api.Value{Kind: api.KindInt, Int: 5, Text: "x"}, api.ErrKind},
		{api.Value{Kind: api.KindText, Int: 5, Text: long(257)}, api.ErrKind},
		{text(long(257)), api.ErrLong},
		{text(long(1 << 20)), api.ErrLong},
	}
}

// noKeys is texts that are no keys.
func noKeys() []string {
	return []string{"", long(65), long(66), strings.Repeat("\x00", 65), long(1 << 20)}
}

type badEntry struct {
	x    api.Entry
	want api.Errno
}

// badEntries is entries that are refused whatever stands ahead of them, of that key where the key is not what is wrong.
func badEntries(key string) []badEntry {
	var out []badEntry
	for _, k := range noKeys() {
		out = append(out, badEntry{one(k, 1), api.ErrName}, badEntry{entry(k, nothing), api.ErrName}, badEntry{entry(k, text(long(257))), api.ErrName})
	}
	for _, v := range badValues() {
		out = append(out, badEntry{entry(key, v.v), v.want})
	}
	return out
}

// piece is what is handed to one Page.
type piece struct {
	procs   []api.Proc
	entries []api.Entry
}

// cut is procedures and entries in pieces of so many each, the last sizes over again.
func cut(procs []api.Proc, entries []api.Entry, sizes ...int) []piece {
	var out []piece
	for i := 0; len(procs)+len(entries) > 0; i++ {
		n := sizes[i%len(sizes)]
		p := min(n, len(procs))
		e := min(n-p, len(entries))
		out = append(out, piece{procs[:p], entries[:e]})
		procs, entries = procs[p:], entries[e:]
	}
	return out
}

func unhex(s string) []byte {
	b, err := hex.DecodeString(strings.ReplaceAll(s, " ", ""))
	if err != nil {
		panic(err)
	}
	return b
}

// sameProc tells whether two procedures are the same; a Code without an instruction is as good as none.
func sameProc(a, b api.Proc) bool {
	return a.Name == b.Name && a.Args == b.Args && slices.Equal(a.Code, b.Code)
}

func same(a, b api.Image) bool {
	return a.Number == b.Number && a.Mark == b.Mark && slices.EqualFunc(a.Procs, b.Procs, sameProc) && slices.Equal(a.Entries, b.Entries)
}

func short(s string) string { return strconv.QuoteToASCII(s[:min(len(s), 20)]) }

// told is a piece in few words.
func told(procs []api.Proc, entries []api.Entry) string {
	var s strings.Builder
	s.WriteString(strconv.Itoa(len(procs)) + " procedures")
	for _, p := range procs[:min(len(procs), 4)] {
		s.WriteString(" " + short(p.Name) + " of " + strconv.Itoa(len(p.Code)))
	}
	s.WriteString(", " + strconv.Itoa(len(entries)) + " entries")
	for _, x := range entries[:min(len(entries), 4)] {
		s.WriteString(" " + short(x.Key) + " kind " + strconv.Itoa(x.Value.Kind))
	}
	return s.String()
}

func toldImage(m api.Image) string {
	return "number " + strconv.Itoa(m.Number) + " mark " + strconv.Itoa(m.Mark) + ", " + told(m.Procs, m.Entries)
}

// begun is a Writer.
func begun(t testing.TB, number, mark int) *page.Writer {
	t.Helper()
	w, e := page.New(number, mark)
	if w == nil || e != api.OK {
		t.Fatalf("P14.1: New(%d, %d): %v", number, mark, e)
	}
	return w
}

// paged is a piece that is taken.
func paged(t testing.TB, w *page.Writer, procs []api.Proc, entries []api.Entry) []byte {
	t.Helper()
	b, e := w.Page(procs, entries)
	if e != api.OK {
		t.Fatalf("P14.2: Page(%s): %v", told(procs, entries), e)
	}
	return b
}

// refusedPage is a piece that is refused.
func refusedPage(t testing.TB, w *page.Writer, procs []api.Proc, entries []api.Entry, want api.Errno) {
	t.Helper()
	if b, e := w.Page(procs, entries); e != want || len(b) > 0 {
		t.Errorf("P14.2, W3: Page(%s): %d bytes, %v, not %v", told(procs, entries), len(b), e, want)
	}
}

// ended is the last piece.
func ended(t testing.TB, w *page.Writer) []byte {
	t.Helper()
	b, e := w.End()
	if e != api.OK {
		t.Fatalf("P14.3: End: %v", e)
	}
	return b
}

// refusedEnd is an End that is refused.
func refusedEnd(t testing.TB, w *page.Writer, want api.Errno) {
	t.Helper()
	if b, e := w.End(); e != want || len(b) > 0 {
		t.Errorf("P14.3, W3: End: %d bytes, %v, not %v", len(b), e, want)
	}
}

// written is the whole file of these pieces.
func written(t testing.TB, number, mark int, pieces ...piece) []byte {
	t.Helper()
	w := begun(t, number, mark)
	var out []byte
	for _, p := range pieces {
		out = append(out, paged(t, w, p.procs, p.entries)...)
	}
	return append(out, ended(t, w)...)
}

// reads asks Read, and holds its answer against what is wanted; beside an error it is zero.
func reads(t testing.TB, b []byte, want api.Image, err api.Errno) {
	t.Helper()
	m, e := page.Read(b)
	if e != err || !same(m, want) || e != api.OK && len(m.Procs)+len(m.Entries) > 0 {
		t.Errorf("P14.4: Read(%x), %d bytes: %s, %v, not %s, %v", b[:min(len(b), 60)], len(b), toldImage(m), e, toldImage(want), err)
	}
}

// refused is bytes that Read refuses.
func refused(t testing.TB, b []byte, err api.Errno) {
	t.Helper()
	reads(t, b, api.Image{}, err)
	if _, e := slowRead(b); e != err {
		t.Errorf("the words say %v of %x, not %v", e, b[:min(len(b), 60)], err)
	}
}

// agrees holds Read against the chapter's words; what it takes is what a Writer gives out.
func agrees(t testing.TB, b []byte) api.Errno {
	t.Helper()
	want, err := slowRead(b)
	reads(t, b, want, err)
	if err == api.OK {
		again(t, b, want)
	}
	return err
}

// again hands an image to a Writer in the pieces that its bytes have.
func again(t testing.TB, b []byte, m api.Image) {
	t.Helper()
	var pieces []piece
	if len(m.Procs) > 0 {
		pieces = cut(m.Procs, nil, 128)
	}
	rest := m.Entries
	for _, n := range entryCounts(b) {
		pieces = append(pieces, piece{nil, rest[:n]})
		rest = rest[n:]
	}
	if got := written(t, m.Number, m.Mark, pieces...); len(rest) > 0 || !bytes.Equal(got, b) {
		t.Errorf("P14.6: %s comes back as %x, not %x", toldImage(m), got[:min(len(got), 60)], b[:min(len(b), 60)])
	}
}
