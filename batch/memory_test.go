package batch_test

import (
	"bytes"
	"fmt"
	"runtime"
	"slices"
	"testing"
	"unsafe"
	"weak"

	"treadle/api"
	"treadle/batch"
)

// given is a batch of definitions and calls, with texts of two bytes and more; each text is made by own.
func given(own func(s string) string) api.Batch {
	set := func(s string) api.Instr { return api.Instr{Op: api.OpSet, Value: text(own(s))} }
	words := func(n int) api.Txn {
		t := call(own("words"))
		for i := range n {
			t.Args = append(t.Args, text(own(fmt.Sprintf("word %d", i))))
		}
		return t
	}
	return from(300,
		define(api.Proc{Name: own("first"), Args: 2, Code: []api.Instr{set("ab"), set("a longer text"), {Op: api.OpStop}}}),
		words(3),
		define(api.Proc{Name: own("first"), Args: 2, Code: []api.Instr{set("ab"), set("a longer text"), {Op: api.OpStop}}}),
		words(16),
		words(0),
		words(3),
		api.Txn{Kind: api.TxnCall, Name: own("numbers"), Args: []api.Value{num(7), nothing, num(-7)}},
		define(api.Proc{Name: own("bare")}),
	)
}

func apart(s string) string { return string([]byte(s)) }

// overwrite lays other bytes over a text.
func overwrite(s string) {
	row := unsafe.Slice(unsafe.StringData(s), len(s))
	for i := range row {
		row[i] = '!'
	}
}

// textsOf is all texts of a batch.
func textsOf(b api.Batch) []string {
	var texts []string
	for _, t := range b.Txns {
		texts = append(texts, t.Name, t.Proc.Name)
		for _, in := range t.Proc.Code {
			texts = append(texts, in.Value.Text)
		}
		for _, v := range t.Args {
			texts = append(texts, v.Text)
		}
	}
	return texts
}

// ruin writes over all of a batch: each text, each list up to the end of its room.
func ruin(b api.Batch) {
	for _, s := range textsOf(b) {
		overwrite(s)
	}
	for i := range b.Txns {
		t := &b.Txns[i]
		args, code := t.Args[:cap(t.Args)], t.Proc.Code[:cap(t.Proc.Code)]
		for k := range args {
			args[k] = num(999)
		}
		for k := range code {
			code[k] = api.Instr{Op: 99}
		}
	}
	all := b.Txns[:cap(b.Txns)]
	for i := range all {
		all[i] = api.Txn{Kind: 99}
	}
}

// deep is a batch with all that it points to, in words.
func deep(b api.Batch) string { return fmt.Sprintf("%#v", b) }

// roomy is a batch whose lists have spare room with something in it.
func roomy(b api.Batch) api.Batch {
	spare := define(api.Proc{Name: "spare"})
	for i := range b.Txns {
		t := &b.Txns[i]
		t.Args = append(slices.Clip(t.Args), num(1), num(2), num(3))[:len(t.Args)]
		t.Proc.Code = append(slices.Clip(t.Proc.Code), stops(3)...)[:len(t.Proc.Code)]
	}
	b.Txns = append(slices.Clip(b.Txns), spare, spare)[:len(b.Txns)]
	return b
}

// deepRoom is a batch in words, with the spare room of its lists.
func deepRoom(b api.Batch) string {
	b.Txns = slices.Clone(b.Txns[:cap(b.Txns)])
	for i := range b.Txns {
		t := &b.Txns[i]
		t.Args, t.Proc.Code = t.Args[:cap(t.Args)], t.Proc.Code[:cap(t.Proc.Code)]
	}
	return deep(b)
}

// P12.5, W6: a batch that is handed in is as it was, and so is the spare room behind its lists.
func TestBatchUnchanged(t *testing.T) {
	bad := roomy(given(apart))
	bad.Txns[4].Name = "1p"
	for _, b := range []api.Batch{roomy(given(apart)), bad} {
		was := deepRoom(b)
		batch.Check(b)
		batch.Encode(b)
		if deepRoom(b) != was {
			t.Errorf("P12.5: what was handed in is changed")
		}
	}
	for _, x := range badTxns() {
		b := roomy(from(1, x.t))
		was := deepRoom(b)
		batch.Check(b)
		batch.Encode(b)
		if deepRoom(b) != was {
			t.Errorf("P12.5: what was handed in is changed: %s", told(b))
		}
	}
	if got := encoded(t, roomy(given(apart))); !bytes.Equal(got, slowBytes(given(apart))) {
		t.Errorf("W6: what stands behind the lists is laid")
	}
}

// P12.5, W6: a batch written over afterwards changes nothing of its bytes; new ones each time.
func TestEncodeNewMemory(t *testing.T) {
	b := given(apart)
	first, second := encoded(t, b), encoded(t, b)
	want := slowBytes(b)
	ruin(b)
	if !bytes.Equal(first, want) || !bytes.Equal(second, want) {
		t.Errorf("P12.5: the bytes hang on the batch")
	}
	b = given(apart)
	was := deep(b)
	for _, data := range [][]byte{first, encoded(t, b)} {
		data = data[:cap(data)]
		for i := range data {
			data[i] ^= 0xff
		}
		if !bytes.Equal(second, want) || !bytes.Equal(encoded(t, b), want) || deep(b) != was {
			t.Errorf("P12.5: the bytes are shared")
		}
	}
}

// P12.5, W6: bytes that are handed in are as they were, behind their end too; written over, they change no answer.
func TestDecodeKeepsNothing(t *testing.T) {
	want := given(apart)
	data := slowBytes(want)
	for i := range len(data) + 1 {
		room := append(slices.Clone(data[:i]), "behind the end"...)
		was := slices.Clone(room)
		b, e := batch.Decode(room[:i])
		if !bytes.Equal(room, was) {
			t.Errorf("P12.5: what was handed in is changed")
		}
		for k := range room {
			room[k] = ^room[k]
		}
		if i == len(data) && (e != api.OK || !same(b, want)) {
			t.Errorf("P12.5: %s has become %s, %v", told(want), told(b), e)
		}
	}
}

// P12.5, W6: a batch that is answered is written over: neither the bytes nor another answer change.
func TestDecodeNewMemory(t *testing.T) {
	want := given(apart)
	data := slowBytes(want)
	first, _ := batch.Decode(data)
	second, _ := batch.Decode(data)
	ruin(first)
	if !same(second, want) || !bytes.Equal(data, slowBytes(want)) {
		t.Errorf("P12.5: an answer hangs on another")
	}
	decoded(t, data, want, api.OK)
}

// P12.5, W6: of one answer each list and each text is written over alone: nothing else of it changes.
func TestListsApart(t *testing.T) {
	data := slowBytes(given(apart))
	fresh := func() api.Batch {
		b, e := batch.Decode(data)
		if e != api.OK {
			t.Fatal(e)
		}
		return b
	}
	n := len(fresh().Txns)
	for i := range n {
		b, want := fresh(), given(apart)
		args := b.Txns[i].Args[:cap(b.Txns[i].Args)]
		for k := range args {
			args[k] = num(999)
		}
		for k := range want.Txns[i].Args {
			want.Txns[i].Args[k] = num(999)
		}
		if !same(b, want) {
			t.Errorf("P12.5: the arguments of %d are shared", i)
		}
		b, want = fresh(), given(apart)
		code := b.Txns[i].Proc.Code[:cap(b.Txns[i].Proc.Code)]
		for k := range code {
			code[k] = api.Instr{Op: 99}
		}
		for k := range want.Txns[i].Proc.Code {
			want.Txns[i].Proc.Code[k] = api.Instr{Op: 99}
		}
		if !same(b, want) {
			t.Errorf("P12.5: the instructions of %d are shared", i)
		}
		// What is laid behind a list's end goes nowhere.
		b, want = fresh(), given(apart)
		_ = append(b.Txns[i].Args, num(999))
		_ = append(b.Txns[i].Proc.Code, api.Instr{Op: 99})
		_ = append(b.Txns, api.Txn{Kind: 99})
		if !same(b, want) {
			t.Errorf("P12.5: the spare room of %d is shared", i)
		}
	}
	texts := textsOf(fresh())
	for i := range texts {
		b, want := fresh(), given(apart)
		overwrite(textsOf(b)[i])
		overwrite(textsOf(want)[i])
		if !same(b, want) {
			t.Errorf("P12.5: the text %d, %q, is shared", i, texts[i])
		}
	}
}

// P12.5, W6: texts that a batch shares with memory which is written over afterwards.
func TestBatchTextsNotShared(t *testing.T) {
	var rows [][]byte
	b := given(func(s string) string {
		row := []byte(s)
		rows = append(rows, row)
		return unsafe.String(unsafe.SliceData(row), len(row))
	})
	data := encoded(t, b)
	for _, row := range rows {
		clear(row)
	}
	decoded(t, data, given(apart), api.OK)
}

// P12.5: what was handed in is let go as soon as its owner lets it go, while the answers are still held.
func TestNotKept(t *testing.T) {
	type held struct {
		rows []weak.Pointer[[2000]byte]
		args []weak.Pointer[[4]api.Value]
		txns []weak.Pointer[[2]api.Txn]
		keep []any
	}
	told := make(chan held)
	// A goroutine of its own, so that no stack of this one holds them any more.
	go func() {
		var h held
		row := func() []byte {
			p := new([2000]byte)
			h.rows = append(h.rows, weak.Make(p))
			return p[:]
		}
		textOf := func(n int) string {
			r := row()
			copy(r, long(n))
			return unsafe.String(&r[0], n)
		}
		make2 := func() api.Batch {
			args, txns := new([4]api.Value), new([2]api.Txn)
			h.args, h.txns = append(h.args, weak.Make(args)), append(h.txns, weak.Make(txns))
			args[1] = text(textOf(200))
			txns[0] = call(textOf(20), args[:]...)
			txns[1] = define(api.Proc{Name: textOf(20), Code: []api.Instr{{Op: api.OpSet, Value: text(textOf(200))}}})
			return api.Batch{First: 1, Txns: txns[:]}
		}
		keep := func(answer any, e api.Errno) { h.keep = append(h.keep, answer, e) }
		keep(nil, batch.Check(make2()))
		keep(batch.Encode(make2()))
		bad := make2()
		bad.Txns[0].Args[3].Kind = 3
		keep(nil, batch.Check(bad))
		keep(batch.Encode(bad))
		data := row()
		n := copy(data, slowBytes(given(apart)))
		keep(batch.Decode(data[:n]))
		keep(batch.Decode(data))
		keep(batch.Decode(data[:n-1]))
		told <- h
	}()
	h := <-told
	for range 10 {
		runtime.GC()
	}
	for i, p := range h.rows {
		if p.Value() != nil {
			t.Errorf("P12.5: row %d is kept", i)
		}
	}
	for i := range h.args {
		if h.args[i].Value() != nil || h.txns[i].Value() != nil {
			t.Errorf("P12.5: batch %d is kept", i)
		}
	}
	if len(h.keep) != 14 || h.keep[9] != api.OK {
		t.Errorf("P12.5: the batch is not taken: %v", h.keep[9])
	}
	runtime.KeepAlive(h.keep)
}

// W9: several goroutines may each ask at one time.
func TestTogether(t *testing.T) {
	want := given(apart)
	data := slowBytes(want)
	failed := make(chan bool)
	for range 8 {
		go func() {
			bad := false
			for range 50 {
				b, e := batch.Decode(data)
				again, f := batch.Encode(want)
				bad = bad || e != api.OK || f != api.OK || !same(b, want) || !bytes.Equal(again, data) || batch.Check(want) != api.OK
			}
			failed <- bad
		}()
	}
	for range 8 {
		if <-failed {
			t.Errorf("W9: another answer")
		}
	}
}
