package page_test

import (
	"bytes"
	"fmt"
	"runtime"
	"slices"
	"testing"
	"unsafe"
	"weak"

	"treadle/api"
	"treadle/page"
)

// given is procedures and entries with texts of two bytes and more, many of them alike; each text is made by own.
func given(own func(s string) string) piece {
	set := func(s string) api.Instr { return api.Instr{Op: api.OpSet, Value: text(own(s))} }
	return piece{
		[]api.Proc{
			{Name: own("bare")},
			{Name: own("first"), Args: 2, Code: []api.Instr{set("ab"), set("a longer text"), {Op: api.OpStop}}},
			{Name: own("other"), Args: 2, Code: []api.Instr{set("ab"), set("a longer text"), {Op: api.OpStop}}},
		},
		[]api.Entry{
			entry(own("ab"), text(own("ab"))),
			entry(own("bare"), num(7)),
			entry(own("key 1"), text(own("a longer text"))),
			entry(own("key 2"), text(own("a longer text"))),
			entry(own("other"), text("")),
		},
	}
}

func apart(s string) string { return string([]byte(s)) }

// givenImage is what Read says of what was given.
func givenImage() api.Image {
	g := given(apart)
	return api.Image{Number: 300, Mark: 7, Procs: g.procs, Entries: g.entries}
}

// overwrite lays other bytes over a text.
func overwrite(s string) {
	row := unsafe.Slice(unsafe.StringData(s), len(s))
	for i := range row {
		row[i] = '!'
	}
}

// flip changes all bytes, up to the end of their room.
func flip(b []byte) {
	b = b[:cap(b)]
	for i := range b {
		b[i] ^= 0xff
	}
}

// textsOf is all texts of procedures and entries.
func textsOf(p piece) []string {
	var texts []string
	for _, x := range p.procs {
		texts = append(texts, x.Name)
		for _, in := range x.Code {
			texts = append(texts, in.Value.Text)
		}
	}
	for _, x := range p.entries {
		texts = append(texts, x.Key, x.Value.Text)
	}
	return texts
}

// ruin writes over all of a piece: each text, each list up to the end of its room.
func ruin(p piece) {
	for _, s := range textsOf(p) {
		overwrite(s)
	}
	for _, x := range p.procs {
		code := x.Code[:cap(x.Code)]
		for i := range code {
			code[i] = api.Instr{Op: 99}
		}
	}
	procs, entries := p.procs[:cap(p.procs)], p.entries[:cap(p.entries)]
	for i := range procs {
		procs[i] = api.Proc{Name: "99"}
	}
	for i := range entries {
		entries[i] = one("99", 99)
	}
}

// roomy is a piece whose lists have spare room with something in it.
func roomy(p piece) piece {
	p.procs, p.entries = slices.Clone(p.procs), slices.Clone(p.entries)
	for i := range p.procs {
		x := &p.procs[i]
		x.Code = append(slices.Clip(x.Code), stops(3)...)[:len(x.Code)]
	}
	p.procs = append(slices.Clip(p.procs), named("spare", "zpare")...)[:len(p.procs)]
	p.entries = append(slices.Clip(p.entries), ones("spare", "zpare")...)[:len(p.entries)]
	return p
}

// deepRoom is a piece in words, with the spare room of its lists.
func deepRoom(p piece) string {
	p.procs, p.entries = slices.Clone(p.procs[:cap(p.procs)]), p.entries[:cap(p.entries)]
	for i := range p.procs {
		x := &p.procs[i]
		x.Code = x.Code[:cap(x.Code)]
	}
	return fmt.Sprintf("%#v", p)
}

// P14.7, W6: what is handed to Page is as it was, the spare room too, whether it is taken or refused; that room is not laid.
func TestPageUnchanged(t *testing.T) {
	all := []piece{given(apart), {someProcs(), nil}, {nil, someEntries()}, {named("b", "a"), ones("a")}, {named("a"), ones("b", "a")}}
	all = append(all, wrongPieces()...)
	for _, p := range all {
		p = roomy(p)
		was := deepRoom(p)
		w := begun(t, 1, 7)
		for range 2 { // the second time it is refused, whatever it is
			w.Page(p.procs, p.entries)
			if deepRoom(p) != was {
				t.Errorf("P14.7: what was handed in is changed: %s", told(p.procs, p.entries))
			}
		}
	}
	g := roomy(given(apart))
	if got := written(t, 300, 7, g); !bytes.Equal(got, written(t, 300, 7, given(apart))) {
		t.Errorf("W6: what stands behind the lists is laid")
	}
}

// P14.7, W6: what was handed in is written over afterwards: neither the bytes nor what the Writer gives out later change.
func TestPageKeepsNothing(t *testing.T) {
	more := []piece{{nil, ones("other", "z")}, {nil, ones("othes")}, {named("z"), nil}, {nil, ones("z", "zz")}}
	p := paired(t, 300, 7)
	for _, x := range cut(given(apart).procs, given(apart).entries, 2, 1, 3) {
		mine := piece{slices.Clone(x.procs), slices.Clone(x.entries)}
		for i := range mine.procs {
			mine.procs[i].Name = apart(mine.procs[i].Name)
			mine.procs[i].Code = slices.Clone(mine.procs[i].Code)
			for k := range mine.procs[i].Code {
				mine.procs[i].Code[k].Value.Text = apart(mine.procs[i].Code[k].Value.Text)
			}
		}
		for i := range mine.entries {
			mine.entries[i].Key = apart(mine.entries[i].Key)
			mine.entries[i].Value.Text = apart(mine.entries[i].Value.Text)
		}
		want, _ := p.m.page(x.procs, x.entries)
		got := paged(t, p.w, mine.procs, mine.entries)
		ruin(mine)
		if !bytes.Equal(got, want) {
			t.Errorf("P14.7: the bytes hang on what was handed in")
		}
		// A piece that is refused, written over too: the last name and key stay what they were.
		bad := piece{named(apart("zz")), append(ones(apart("zz")), entry(apart("zzz"), nothing))}
		if p.m.values > 0 {
			bad.procs = nil
		}
		refusedPage(t, p.w, bad.procs, bad.entries, api.ErrKind)
		ruin(bad)
	}
	for _, x := range more {
		p.page(x.procs, x.entries)
	}
	p.end()
}

// P14.7, W6: the bytes that Page and End answer are written over: neither the Writer nor another answer changes.
func TestBytesNewMemory(t *testing.T) {
	g := given(apart)
	for _, sizes := range [][]int{{1}, {2}, {3}, {128}} {
		p := paired(t, 300, 7)
		var got, wants [][]byte
		for _, x := range cut(g.procs, g.entries, sizes...) {
			was := deepRoom(x)
			got = append(got, paged(t, p.w, x.procs, x.entries))
			want, _ := p.m.page(x.procs, x.entries)
			wants = append(wants, want)
			b := got[len(got)-1]
			_ = append(b, 1, 2, 3)
			flip(b)
			if deepRoom(x) != was {
				t.Errorf("P14.7: the bytes are those of what was handed in")
			}
			flip(b)
		}
		got = append(got, ended(t, p.w))
		want, _ := p.m.end()
		wants = append(wants, want)
		for i := range got {
			flip(got[i])
			for k := range got {
				if k != i && !bytes.Equal(got[k], wants[k]) {
					t.Errorf("W6: the answers %d and %d share memory", i, k)
				}
			}
			flip(got[i])
			if !bytes.Equal(got[i], wants[i]) {
				t.Errorf("W6: the answer %d is %x, not %x", i, got[i], wants[i])
			}
		}
	}
	// Written over for good, piece by piece, and nothing comes out otherwise.
	p := paired(t, 300, 7)
	for _, x := range cut(g.procs, g.entries, 2) {
		b := paged(t, p.w, x.procs, x.entries)
		want, _ := p.m.page(x.procs, x.entries)
		if !bytes.Equal(b, want) {
			t.Errorf("W6: the Writer hangs on what it has answered")
		}
		flip(b)
	}
	p.end()
}

// P14.7, W6: bytes that are handed to Read are as they were, behind their end too; written over, they change no answer.
func TestReadKeepsNothing(t *testing.T) {
	want := givenImage()
	b := written(t, 300, 7, given(apart))
	for i := range len(b) + 1 {
		room := append(slices.Clone(b[:i]), "behind the end"...)
		was := slices.Clone(room)
		m, e := page.Read(room[:i])
		if !bytes.Equal(room, was) {
			t.Errorf("P14.7: what was handed in is changed")
		}
		flip(room)
		if i == len(b) && (e != api.OK || !same(m, want)) {
			t.Errorf("P14.7: %s has become %s, %v", toldImage(want), toldImage(m), e)
		}
	}
}

// P14.7, W6: an image that is answered is written over: neither the bytes nor another answer change.
func TestImageNewMemory(t *testing.T) {
	want := givenImage()
	b := written(t, 300, 7, given(apart))
	was := slices.Clone(b)
	first, _ := page.Read(b)
	second, _ := page.Read(b)
	ruin(piece{first.Procs, first.Entries})
	if !same(second, want) || !bytes.Equal(b, was) {
		t.Errorf("P14.7: an answer hangs on another, or on the bytes")
	}
	reads(t, b, want, api.OK)
}

// P14.7, W6: of one answer each list and each text is written over, or added to, alone: nothing else of it changes.
func TestListsApart(t *testing.T) {
	b := written(t, 300, 7, cut(given(apart).procs, given(apart).entries, 2)...)
	fresh := func() (api.Image, api.Image) {
		m, e := page.Read(b)
		if e != api.OK {
			t.Fatal(e)
		}
		return m, givenImage()
	}
	m, want := fresh()
	for i := range m.Procs {
		m, want = fresh()
		code := m.Procs[i].Code[:cap(m.Procs[i].Code)]
		for k := range code {
			code[k] = api.Instr{Op: 99}
		}
		for k := range want.Procs[i].Code {
			want.Procs[i].Code[k] = api.Instr{Op: 99}
		}
		if !same(m, want) {
			t.Errorf("W6: the instructions of %d are shared", i)
		}
		m, want = fresh()
		_ = append(m.Procs[i].Code, api.Instr{Op: 99})
		_ = append(m.Procs[:i:i], api.Proc{Name: "99"})
		if !same(m, want) {
			t.Errorf("W6: the spare room of %d is shared", i)
		}
	}
	m, want = fresh()
	spareProcs, spareEntries := m.Procs[len(m.Procs):cap(m.Procs)], m.Entries[len(m.Entries):cap(m.Entries)]
	for i := range spareProcs {
		spareProcs[i] = api.Proc{Name: "99"}
	}
	for i := range spareEntries {
		spareEntries[i] = one("99", 99)
	}
	if !same(m, want) {
		t.Errorf("W6: the spare room is shared")
	}
	texts := textsOf(piece{m.Procs, m.Entries})
	for i := range texts {
		m, want = fresh()
		overwrite(textsOf(piece{m.Procs, m.Entries})[i])
		overwrite(textsOf(piece{want.Procs, want.Entries})[i])
		if !same(m, want) {
			t.Errorf("W6: the text %d, %q, is shared", i, texts[i])
		}
	}
}

// P14.7: what was handed in is let go as soon as its owner lets it go, while the Writers and the answers are still held.
func TestLetGo(t *testing.T) {
	type held struct {
		rows    []weak.Pointer[[2000]byte]
		procs   []weak.Pointer[[2]api.Proc]
		entries []weak.Pointer[[4]api.Entry]
		keep    []any
	}
	told := make(chan held)
	// A goroutine of its own, so that no stack of this one holds them any more.
	go func() {
		var h held
		row := func() []byte {
			p := new([2000]byte)
			h.rows = append(h.rows, weak.Make(p))
			return p[:]
		}
		textOf := func(first string, n int) string {
			r := row()
			copy(r, first+long(n))
			return unsafe.String(&r[0], n)
		}
		made := func(first string) piece {
			procs, entries := new([2]api.Proc), new([4]api.Entry)
			h.procs, h.entries = append(h.procs, weak.Make(procs)), append(h.entries, weak.Make(entries))
			procs[0] = api.Proc{Name: textOf(first, 20), Code: []api.Instr{{Op: api.OpSet, Value: text(textOf("", 200))}}}
			procs[1] = api.Proc{Name: textOf(first+"z", 20)}
			for i := range entries {
				entries[i] = entry(textOf(first+string(rune('a'+i)), 60), text(textOf("", 200)))
			}
			return piece{procs[:], entries[:]}
		}
		keep := func(answer any, e api.Errno) { h.keep = append(h.keep, answer, e) }
		w, _ := page.New(1, 7)
		h.keep = append(h.keep, w)
		a, b := made("a"), made("b")
		keep(w.Page(a.procs, nil))
		keep(w.Page(b.procs, b.entries)) // the last name, the last key
		c := made("c")
		keep(w.Page(nil, append(c.entries, api.Entry{}))) // refused behind four of them
		c = made("c")
		c.entries[3].Value = nothing
		keep(w.Page(nil, c.entries))
		data := row()
		n := copy(data, written(t, 300, 7, given(apart)))
		keep(page.Read(data[:n]))
		keep(page.Read(data))
		keep(page.Read(data[:n-1]))
		told <- h
	}()
	h := <-told
	for range 10 {
		runtime.GC()
	}
	for i, p := range h.rows {
		if p.Value() != nil {
			t.Errorf("P14.7: row %d is kept", i)
		}
	}
	for i := range h.procs {
		if h.procs[i].Value() != nil || h.entries[i].Value() != nil {
			t.Errorf("P14.7: piece %d is kept", i)
		}
	}
	var errs []api.Errno
	for i := 2; i < len(h.keep); i += 2 {
		errs = append(errs, h.keep[i].(api.Errno))
	}
	if !slices.Equal(errs, []api.Errno{api.OK, api.OK, api.ErrName, api.ErrKind, api.OK, api.ErrForm, api.ErrTorn}) {
		t.Errorf("P14.7: the answers are %v", errs)
	}
	runtime.KeepAlive(h.keep)
}

// W8: a Writer that is copied as a value goes on as the one would that it was copied of.
func TestCopied(t *testing.T) {
	w := begun(t, 1, 7)
	b := paged(t, w, named("a"), ones("a"))
	other := *w
	b = append(b, paged(t, &other, nil, ones("b"))...)
	b = append(b, ended(t, &other)...)
	if !bytes.Equal(b, written(t, 1, 7, piece{named("a"), ones("a")}, piece{nil, ones("b")})) {
		t.Errorf("W8: a copy gives out other bytes")
	}
}

// W9: several goroutines, each with a Writer of its own, at one time; one row of bytes read by all of them.
func TestTogether(t *testing.T) {
	want, g := givenImage(), given(apart)
	data := written(t, 300, 7, g)
	failed := make(chan bool)
	for range 8 {
		go func() {
			bad := false
			for range 50 {
				m, e := page.Read(data)
				w, f := page.New(300, 7)
				row, h := w.Page(g.procs, g.entries)
				end, k := w.End()
				bad = bad || e != api.OK || f != api.OK || h != api.OK || k != api.OK || !same(m, want) || !bytes.Equal(append(row, end...), data)
			}
			failed <- bad
		}()
	}
	for range 8 {
		if <-failed {
			t.Errorf("W9: another answer")
		}
	}
}
