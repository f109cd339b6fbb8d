package page_test

import (
	"bytes"
	"encoding/binary"
	"hash/crc32"
	"math/rand"
	"slices"
	"testing"

	"treadle/api"
	"treadle/datum"
	"treadle/page"
	"treadle/proc"
)

// What the chapter says, done slowly. Rows of sevens and frames are chapters 1's and 4's, written here anew;
// procedures and values are asked of chapters 6 and 5, as the chapter does.

var castagnoli = crc32.MakeTable(crc32.Castagnoli)

// framed is the frames of some bodies, one behind the other.
func framed(bodies ...[]byte) []byte {
	var out []byte
	for _, body := range bodies {
		head := binary.LittleEndian.AppendUint32(nil, uint32(len(body)))
		head = binary.LittleEndian.AppendUint32(head, crc32.Checksum(slices.Concat(head, body), castagnoli))
		out = slices.Concat(out, head, body)
	}
	return out
}

// slowWhole is the body of the frame at the beginning, if one stands there whole.
func slowWhole(b []byte) ([]byte, bool) {
	if len(b) < 8 {
		return nil, false
	}
	n := binary.LittleEndian.Uint32(b)
	if n == 0 || n > 65536 || int(n) > len(b)-8 {
		return nil, false
	}
	body := b[8 : 8+n]
	return body, binary.LittleEndian.Uint32(b[4:]) == crc32.Checksum(slices.Concat(b[:4], body), castagnoli)
}

// bodiesOf is the bodies of the whole frames from the beginning on.
func bodiesOf(b []byte) [][]byte {
	var out [][]byte
	for {
		body, whole := slowWhole(b)
		if !whole {
			return out
		}
		out = append(out, slices.Clone(body))
		b = b[8+len(body):]
	}
}

// slowRow is the row of sevens of a number.
func slowRow(n int) []byte {
	var out []byte
	for ; n >= 128; n /= 128 {
		out = append(out, byte(n%128+128))
	}
	return append(out, byte(n))
}

// slowText is a text with its length.
func slowText(s string) []byte { return append(slowRow(len(s)), s...) }

// body is a kind, a place, and what else there is.
func body(kind byte, place int, rest ...[]byte) []byte {
	return slices.Concat([]byte{kind}, slowRow(place), slices.Concat(rest...))
}

func headBody(place, number, mark int) []byte { return body(1, place, slowRow(number), slowRow(mark)) }

func procBody(place int, p api.Proc) []byte {
	b, e := proc.Encode(p)
	if e != api.OK {
		panic(e)
	}
	return body(2, place, slowText(string(b)))
}

func entryBytes(x api.Entry) []byte {
	b, e := datum.Encode(x.Value)
	if e != api.OK {
		panic(e)
	}
	return append(slowText(x.Key), slowText(string(b))...)
}

func entriesBody(place int, entries ...api.Entry) []byte {
	out := body(3, place, slowRow(len(entries)))
	for _, x := range entries {
		out = append(out, entryBytes(x)...)
	}
	return out
}

func endBody(place, procs, entries int) []byte {
	return body(4, place, slowRow(procs), slowRow(entries))
}

// slowWriter is a Writer as the chapter says it.
type slowWriter struct {
	number, mark  int
	given         [][]byte // the bodies
	procs, values int
	name, key     string
	ended         bool
}

// slowNew is New as the chapter says it.
func slowNew(number, mark int) (*slowWriter, api.Errno) {
	if number < 1 || number > 281474976710655 || mark < 0 || mark > 281474976710655 {
		return nil, api.ErrArg
	}
	return &slowWriter{number: number, mark: mark}, api.OK
}

// offends is the error of the first one that offends.
func (m *slowWriter) offends(procs []api.Proc, entries []api.Entry) api.Errno {
	name, key := m.name, m.key
	for _, p := range procs {
		if _, e := proc.Check(p); e != api.OK {
			return e
		}
		if bytes.Compare([]byte(name), []byte(p.Name)) >= 0 || m.values > 0 {
			return api.ErrOrder
		}
		name = p.Name
	}
	for _, x := range entries {
		if len(x.Key) < 1 || len(x.Key) > 64 {
			return api.ErrName
		}
		if e := datum.Check(x.Value); e != api.OK {
			return e
		}
		if x.Value.Kind == 0 {
			return api.ErrKind
		}
		if bytes.Compare([]byte(key), []byte(x.Key)) >= 0 {
			return api.ErrOrder
		}
		key = x.Key
	}
	return api.OK
}

// give is the frames of these bodies, and the head's ahead of them, if it was not given out yet.
func (m *slowWriter) give(bodies ...func(place int) []byte) []byte {
	was := len(m.given)
	if was == 0 {
		m.given = append(m.given, headBody(0, m.number, m.mark))
	}
	for _, b := range bodies {
		m.given = append(m.given, b(len(m.given)))
	}
	return framed(m.given[was:]...)
}

func (m *slowWriter) page(procs []api.Proc, entries []api.Entry) ([]byte, api.Errno) {
	if m.ended {
		return nil, api.ErrOrder
	}
	if n := len(procs) + len(entries); n == 0 || n > 128 {
		return nil, api.ErrArg
	}
	if e := m.offends(procs, entries); e != api.OK {
		return nil, e
	}
	var bodies []func(place int) []byte
	for _, p := range procs {
		bodies = append(bodies, func(place int) []byte { return procBody(place, p) })
		m.name = p.Name
	}
	if n := len(entries); n > 0 {
		bodies = append(bodies, func(place int) []byte { return entriesBody(place, entries...) })
		m.key = entries[n-1].Key
	}
	m.procs += len(procs)
	m.values += len(entries)
	return m.give(bodies...), api.OK
}

func (m *slowWriter) end() ([]byte, api.Errno) {
	if m.ended {
		return nil, api.ErrOrder
	}
	m.ended = true
	return m.give(func(place int) []byte { return endBody(place, m.procs, m.values) }), api.OK
}

// row is bytes that are taken from the front; bad is whether something could not be.
type row struct {
	b   []byte
	bad bool
}

func (r *row) number() int {
	n := 0
	for i, c := range r.b {
		if i == 8 && c >= 128 {
			break
		}
		n += int(c%128) << (7 * i)
		if c >= 128 {
			continue
		}
		if i > 0 && c == 0 {
			break
		}
		r.b = r.b[i+1:]
		return n
	}
	r.bad = true
	r.b = nil
	return 0
}

func (r *row) text() []byte {
	n := r.number()
	if n > len(r.b) {
		r.bad = true
		r.b = nil
		return nil
	}
	s := r.b[:n]
	r.b = r.b[n:]
	return s
}

// slowTake takes a frame of a file of which m, and place frames, were read; it tells whether it is what it has to be, and the end.
func slowTake(m *api.Image, place int, b []byte) (good, end bool) {
	kind := b[0]
	r := &row{b: b[1:]}
	if r.number() != place || (kind == 1) != (place == 0) {
		return false, false
	}
	switch kind {
	case 1:
		m.Number, m.Mark = r.number(), r.number()
		if m.Number < 1 || m.Number > 281474976710655 || m.Mark > 281474976710655 {
			return false, false
		}
	case 2:
		p, e := proc.Decode(r.text())
		n := len(m.Procs)
		if e != api.OK || len(m.Entries) > 0 || n > 0 && m.Procs[n-1].Name >= p.Name {
			return false, false
		}
		m.Procs = append(m.Procs, p)
	case 3:
		n := r.number()
		if n < 1 || n > 128 {
			return false, false
		}
		for range n {
			key := string(r.text())
			v, e := datum.Decode(r.text())
			k := len(m.Entries)
			if e != api.OK || v.Kind == 0 || len(key) < 1 || len(key) > 64 || k > 0 && m.Entries[k-1].Key >= key {
				return false, false
			}
			m.Entries = append(m.Entries, entry(key, v))
		}
	case 4:
		procs, entries := r.number(), r.number()
		if procs != len(m.Procs) || entries != len(m.Entries) {
			return false, false
		}
	default:
		return false, false
	}
	return !r.bad && len(r.b) == 0, kind == 4
}

// slowRead is Read as the chapter says it.
func slowRead(b []byte) (api.Image, api.Errno) {
	m := api.Image{}
	for place := 0; ; place++ {
		if len(b) == 0 {
			return api.Image{}, api.ErrShort
		}
		body, whole := slowWhole(b)
		if !whole {
			return api.Image{}, api.ErrTorn
		}
		b = b[8+len(body):]
		good, end := slowTake(&m, place, body)
		if !good || end && len(b) > 0 {
			return api.Image{}, api.ErrForm
		}
		if end {
			return m, api.OK
		}
	}
}

// entryCounts is how many entries each frame of entries has, of bytes that Read takes.
func entryCounts(b []byte) []int {
	var out []int
	for place, x := range bodiesOf(b) {
		if x[0] == 3 {
			r := &row{b: x[1+len(slowRow(place)):]}
			out = append(out, r.number())
		}
	}
	return out
}

// pair is a Writer and the chapter's words, to which the same things happen.
type pair struct {
	t testing.TB
	w *page.Writer
	m *slowWriter
	b []byte // all that was given out
}

func paired(t testing.TB, number, mark int) *pair {
	t.Helper()
	m, e := slowNew(number, mark)
	if e != api.OK {
		t.Fatalf("the words refuse New(%d, %d)", number, mark)
	}
	return &pair{t: t, w: begun(t, number, mark), m: m}
}

func (p *pair) page(procs []api.Proc, entries []api.Entry) api.Errno {
	p.t.Helper()
	b, e := p.w.Page(procs, entries)
	want, err := p.m.page(procs, entries)
	if e != err || !bytes.Equal(b, want) {
		p.t.Errorf("P14.2: Page(%s): %x, %v, not %x, %v", told(procs, entries), b[:min(len(b), 60)], e, want[:min(len(want), 60)], err)
	}
	p.b = append(p.b, want...)
	return err
}

// refuses is a Page with that error, in the program and in the words.
func (p *pair) refuses(procs []api.Proc, entries []api.Entry, want api.Errno) {
	p.t.Helper()
	if e := p.page(procs, entries); e != want {
		p.t.Errorf("the words say %v of %s, not %v", e, told(procs, entries), want)
	}
}

// takes is a Page that is taken.
func (p *pair) takes(procs []api.Proc, entries []api.Entry) {
	p.t.Helper()
	p.refuses(procs, entries, api.OK)
}

func (p *pair) end() api.Errno {
	p.t.Helper()
	b, e := p.w.End()
	want, err := p.m.end()
	if e != err || !bytes.Equal(b, want) {
		p.t.Errorf("P14.3: End: %x, %v, not %x, %v", b, e, want, err)
	}
	p.b = append(p.b, want...)
	return err
}

// chance is what is picked at random, the same for the same seed.
type chance struct{ *rand.Rand }

func chanceOf(seed int64) chance { return chance{rand.New(rand.NewSource(seed))} }

// value is a random value of an entry.
func (r chance) value() api.Value {
	if r.Intn(2) == 0 {
		return num(int64(r.Uint64()) >> r.Intn(64))
	}
	s := make([]byte, r.Intn(12))
	if r.Intn(8) == 0 {
		s = make([]byte, r.Intn(257))
	}
	r.Read(s)
	return text(string(s))
}

// key is a random key, with few bytes of few kinds, so that many are alike.
func (r chance) key() string {
	s := make([]byte, 1+r.Intn(3))
	for i := range s {
		s[i] = "\x00ab\x80\xff"[r.Intn(5)]
	}
	if r.Intn(20) == 0 {
		s = append(s, long(64-len(s))...)
	}
	return string(s)
}

// entries is so many random entries, their keys rising, or a few less.
func (r chance) entries(n int) []api.Entry {
	var out []api.Entry
	for range n {
		out = append(out, entry(r.key(), r.value()))
	}
	slices.SortFunc(out, func(a, b api.Entry) int { return bytes.Compare([]byte(a.Key), []byte(b.Key)) })
	return slices.CompactFunc(out, func(a, b api.Entry) bool { return a.Key == b.Key })
}

// procs is so many random procedures, their names rising, or a few less.
func (r chance) procs(n int) []api.Proc {
	some := someProcs()
	var out []api.Proc
	for range n {
		p := some[r.Intn(len(some))]
		p.Name = string("abAB"[r.Intn(4)]) + []string{"", "-", "a", "Z", "9", "aa"}[r.Intn(6)]
		out = append(out, p)
	}
	slices.SortFunc(out, func(a, b api.Proc) int { return bytes.Compare([]byte(a.Name), []byte(b.Name)) })
	return slices.CompactFunc(out, func(a, b api.Proc) bool { return a.Name == b.Name })
}

// bodies is the bodies of a random file.
func (r chance) bodies() [][]byte {
	procs, entries := r.procs(r.Intn(4)), r.entries(r.Intn(9))
	out := [][]byte{headBody(0, 1+r.Intn(300), r.Intn(300))}
	for _, p := range procs {
		out = append(out, procBody(len(out), p))
	}
	for rest := entries; len(rest) > 0; {
		n := 1 + r.Intn(len(rest))
		out = append(out, entriesBody(len(out), rest[:n]...))
		rest = rest[n:]
	}
	return append(out, endBody(len(out), len(procs), len(entries)))
}
