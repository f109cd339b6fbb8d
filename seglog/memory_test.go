package seglog_test

import (
	"bytes"
	"fmt"
	"runtime"
	"slices"
	"testing"
	"unsafe"
	"weak"

	"treadle/api"
	"treadle/seglog"
)

// given is a definition and calls, with texts of two bytes and more; each text is made by own.
func given(own func(s string) string) []api.Txn {
	set := func(s string) api.Instr { return api.Instr{Op: api.OpSet, Value: text(own(s))} }
	return []api.Txn{
		define(api.Proc{Name: own("first"), Args: 2, Code: []api.Instr{set("ab"), set("a longer text"), {Op: api.OpStop}}}),
		call(own("words"), text(own("one word")), text(own("another word")), num(7)),
		call(own("words"), text(own("one word")), nothing),
		call(own("none")),
	}
}

func apart(s string) string { return string([]byte(s)) }

// overwrite lays other bytes over a text.
func overwrite(s string) {
	row := unsafe.Slice(unsafe.StringData(s), len(s))
	for i := range row {
		row[i] = '!'
	}
}

// ruin writes over all of these: each text, each list up to the end of its room.
func ruin(txns []api.Txn) {
	for i := range txns {
		t := &txns[i]
		overwrite(t.Name)
		overwrite(t.Proc.Name)
		args, code := t.Args[:cap(t.Args)], t.Proc.Code[:cap(t.Proc.Code)]
		for k := range args {
			overwrite(args[k].Text)
			args[k] = num(999)
		}
		for k := range code {
			overwrite(code[k].Value.Text)
			code[k] = api.Instr{Op: 99}
		}
	}
	all := txns[:cap(txns)]
	for i := range all {
		all[i] = api.Txn{Kind: 99}
	}
}

// roomy is transactions whose lists have spare room with something in it.
func roomy(txns []api.Txn) []api.Txn {
	for i := range txns {
		t := &txns[i]
		t.Args = append(slices.Clip(t.Args), num(1), num(2))[:len(t.Args)]
		t.Proc.Code = append(slices.Clip(t.Proc.Code), api.Instr{Op: api.OpStop}, api.Instr{Op: api.OpStop})[:len(t.Proc.Code)]
	}
	return append(slices.Clip(txns), call("spare"), call("spare"))[:len(txns)]
}

// deep is transactions with all that they point to, in words, with the spare room of their lists.
func deep(txns []api.Txn) string {
	all := slices.Clone(txns[:cap(txns)])
	for i := range all {
		t := &all[i]
		t.Args, t.Proc.Code = t.Args[:cap(t.Args)], t.Proc.Code[:cap(t.Proc.Code)]
	}
	return fmt.Sprintf("%#v", all)
}

// P13.10, W6: transactions that are handed in are as they were, and written over while they wait they change nothing.
func TestTxnsNotKept(t *testing.T) {
	for _, limit := range []int{1, 100000} {
		want := paired(t, 100000, 20, limit, nil, nil, 1)
		d := newDisk(t, 100000, 20)
		l := started(t, d, limit, nil, 1)
		for range 3 {
			txns := roomy(given(apart))
			was := deep(txns)
			taken(t, l, txns...)
			l.Append(append(slices.Clone(txns), call("1p")))
			if deep(txns) != was {
				t.Errorf("P13.10: what was handed in is changed")
			}
			ruin(txns)
			want.append(given(apart)...)
		}
		flushed(t, l)
		want.flush()
		sameDisk(t, "P13.10: what waits hangs on what was handed in", d, want.d)
	}
}

// P13.10, W6: texts that stand in memory which is written over afterwards.
func TestTxnTextsNotShared(t *testing.T) {
	var rows [][]byte
	d := wide(t)
	l := started(t, d, 100000, nil, 1)
	taken(t, l, given(func(s string) string {
		row := []byte(s)
		rows = append(rows, row)
		return unsafe.String(unsafe.SliceData(row), len(row))
	})...)
	for _, row := range rows {
		clear(row)
	}
	flushed(t, l)
	data, _ := d.Read("log-000000000001")
	goes(t, data, 1, step{from(1, given(apart)...), len(data)})
}

// P13.3, P13.10: a list of segments that is written over afterwards, or grown behind its end.
func TestSegmentsNotKept(t *testing.T) {
	for range 2 {
		list := []api.Segment{{First: 1, Size: 28}, {First: 3, Size: 28}, {First: 5, Size: 14}, {First: 77, Size: 77}, {First: 78, Size: 78}}
		was := slices.Clone(list)
		p := odd.pair(t)
		l := started(t, p.d, 14, list[:3], 6)
		p.m.limit, p.l = 14, l
		if !slices.Equal(list, was) {
			t.Errorf("P13.10: the segments are changed")
		}
		for i := range list {
			list[i] = api.Segment{First: -9, Size: -9}
		}
		ruined := slices.Clone(list)
		p.alike("P13.10")
		p.append(plain(1)...)
		p.flush()
		p.trim(4)
		p.append(plain(1)...)
		p.flush()
		p.trim(100)
		if !slices.Equal(list, ruined) {
			t.Errorf("P13.10: the log writes into the list that it was told: %v", list)
		}
	}
}

// W6: Segments is new memory each time, the spare room too.
func TestSegmentsNewMemory(t *testing.T) {
	p := odd.pair(t)
	mess := func() {
		for range 2 {
			all := p.l.Segments()
			other := p.l.Segments()
			was := slices.Clone(other)
			all = all[:cap(all)]
			for i := range all {
				all[i] = api.Segment{First: -9, Size: -9}
			}
			_ = append(all[:0], api.Segment{First: 7})
			if !slices.Equal(other, was) {
				t.Errorf("W6: two answers share memory")
			}
			p.alike("W6")
		}
	}
	mess()
	for i := range 12 {
		p.append(plain(30 + i)...)
		mess()
		p.flush()
		mess()
		if i%4 == 3 {
			p.trim(p.l.Next() / 2)
			mess()
		}
	}
	// An answer from ahead of a change is as it was.
	was := p.l.Segments()
	kept := slices.Clone(was)
	p.append(plain(64)...)
	p.flush()
	p.trim(p.l.Durable())
	if !slices.Equal(was, kept) {
		t.Errorf("W6: an answer hangs on the log: %v, not %v", was, kept)
	}
	empty := started(t, wide(t), 1, nil, 1)
	if s := empty.Segments(); len(s) != 0 {
		t.Errorf("P13.7: %v", s)
	}
}

// P13.10, W6: bytes handed to Scan are as they were, behind their end too.
func TestScanUnchanged(t *testing.T) {
	data, _, _ := three(5)
	for _, n := range []int{0, 1, 20, len(data) - 1, len(data)} {
		room := append(slices.Clone(data[:n]), "behind the end"...)
		was := slices.Clone(room)
		for range seglog.Scan(room[:n], 5) {
		}
		if !bytes.Equal(room, was) {
			t.Errorf("P13.10: what was handed in is changed")
		}
	}
}

// W6: a batch that is handed on is written over, in the loop: neither the next ones, nor another loop's, nor the bytes change.
func TestScanNewMemory(t *testing.T) {
	data := segmentOf(5, given(apart), given(apart), given(apart))
	was := slices.Clone(data)
	it := seglog.Scan(data, 5)
	want := slowScan(data, 5)
	for range 2 {
		i := 0
		for b, at := range it {
			if !sameStep(step{b, at}, want[i]) {
				t.Errorf("W6: step %d: %d with %d, at %d", i, b.First, len(b.Txns), at)
			}
			k := 0
			for inner, x := range it {
				if !sameStep(step{inner, x}, want[k]) {
					t.Errorf("W6: step %d inside of step %d is another one", k, i)
				}
				ruin(inner.Txns)
				k++
			}
			if !sameStep(step{b, at}, want[i]) {
				t.Errorf("W6: step %d hangs on another loop", i)
			}
			ruin(b.Txns)
			i++
		}
		if i != 3 || !bytes.Equal(data, was) {
			t.Errorf("W6: %d steps", i)
		}
	}
}

// W6: what the disk is handed is its own: bytes that it answers, written over, change neither the log nor another file.
func TestFlushedApart(t *testing.T) {
	p := scene{30, nil, []int{1, 1, 1}}.pair(t)
	p.flush()
	for _, f := range p.d.Files() {
		row := f.Data[:cap(f.Data)]
		for i := range row {
			row[i] = '!'
		}
	}
	p.alike("W6")
	p.append(plain(1)...)
	p.flush()
}

// P13.10: what was handed in is let go as soon as its owner lets it go, while the log and the iterator are still held.
func TestLetGo(t *testing.T) {
	type held struct {
		rows     []weak.Pointer[[2000]byte]
		txns     []weak.Pointer[[2]api.Txn]
		args     []weak.Pointer[[4]api.Value]
		segments []weak.Pointer[[3]api.Segment]
		keep     []any
	}
	told := make(chan held)
	d := wide(t)
	// A goroutine of its own, so that no stack of this one holds them any more.
	go func() {
		var h held
		row := func() []byte {
			p := new([2000]byte)
			h.rows = append(h.rows, weak.Make(p))
			return p[:]
		}
		textOf := func(n int) string {
			r := row()
			copy(r, long(n))
			return unsafe.String(&r[0], n)
		}
		made := func() []api.Txn {
			args, txns := new([4]api.Value), new([2]api.Txn)
			h.args, h.txns = append(h.args, weak.Make(args)), append(h.txns, weak.Make(txns))
			args[1] = text(textOf(200))
			txns[0] = call(textOf(20), args[:]...)
			txns[1] = define(api.Proc{Name: textOf(20), Code: []api.Instr{{Op: api.OpSet, Value: text(textOf(200))}}})
			return txns[:]
		}
		segments := new([3]api.Segment)
		h.segments = append(h.segments, weak.Make(segments))
		segments[0].First = 1
		l, e := seglog.Start(d, 1000, segments[:1], 1)
		h.keep = append(h.keep, l, e)
		first, e := l.Append(made()) // waits
		h.keep = append(h.keep, first, e)
		bad := made()
		bad[1].Kind = 3
		first, e = l.Append(bad)
		h.keep = append(h.keep, first, e)
		data := row()
		n := copy(data, segmentOf(1, plain(3), given(apart)))
		it := seglog.Scan(data[:n], 1)
		for b := range it {
			h.keep = append(h.keep, b)
		}
		h.keep = append(h.keep, it)
		name := textOf(30)
		copy(unsafe.Slice(unsafe.StringData(name), 30), "log-0000000000ff")
		number, is := seglog.First(name[:16])
		h.keep = append(h.keep, number, is)
		told <- h
	}()
	h := <-told
	for range 10 {
		runtime.GC()
	}
	for i, p := range h.rows {
		if p.Value() != nil {
			t.Errorf("P13.10: row %d is kept", i)
		}
	}
	for i := range h.txns {
		if h.txns[i].Value() != nil || h.args[i].Value() != nil {
			t.Errorf("P13.10: batch %d is kept", i)
		}
	}
	if h.segments[0].Value() != nil {
		t.Errorf("P13.10: the segments are kept")
	}
	if len(h.keep) != 11 || h.keep[3] != api.OK || h.keep[5] != api.ErrArg || h.keep[9] != 255 {
		t.Errorf("P13.10: %d things are answered", len(h.keep))
	}
	runtime.KeepAlive(h.keep)
}

// W9: several goroutines, each with a log of its own, at one time; one iterator gone through by all of them.
func TestTogether(t *testing.T) {
	data, all, _ := three(5)
	it := seglog.Scan(data, 5)
	failed := make(chan bool)
	for range 8 {
		d := wide(t)
		l := started(t, d, 100, nil, 1)
		go func() {
			bad := false
			for i := range 50 {
				n := 0
				for b, at := range it {
					bad = bad || !sameStep(step{b, at}, all[n])
					n++
				}
				first, e := l.Append(plain(2))
				bad = bad || n != 3 || first != 1+2*i || e != api.OK || l.Flush() != api.OK || seglog.Name(first) != slowName(first)
			}
			failed <- bad
		}()
	}
	for range 8 {
		if <-failed {
			t.Errorf("W9: another answer")
		}
	}
}
