package audit_test

import (
	"fmt"
	"math/rand"
	"reflect"
	"slices"
	"strings"
	"testing"

	"treadle/api"
	"treadle/audit"
	"treadle/batch"
	"treadle/disk"
	"treadle/frame"
	"treadle/manifest"
	"treadle/page"
	"treadle/revive"
)

// most is the greatest number there may be, written out.
const most = 281474976710655

// dir is the files of a directory.
type dir []api.FileBytes

func file(name string, data []byte) api.FileBytes { return api.FileBytes{Name: name, Data: data} }

func named(beginning string, number int) string { return fmt.Sprintf("%s%012x", beginning, number) }

func logName(first int) string { return named("log-", first) }

func ckptName(number int) string { return named("ckpt-", number) }

// with is these files and some more, which take the place of those with their names.
func (x dir) with(more ...api.FileBytes) dir {
	for _, f := range more {
		x = append(x.without(f.Name), f)
	}
	return x
}

func (x dir) without(names ...string) dir {
	return slices.DeleteFunc(slices.Clone(x), func(f api.FileBytes) bool { return slices.Contains(names, f.Name) })
}

// bytes is those of a file.
func (x dir) bytes(name string) []byte {
	for _, f := range x {
		if f.Name == name {
			return slices.Clone(f.Data)
		}
	}
	panic("no file " + name)
}

// cut is these files, one of them without its last n bytes.
func (x dir) cut(name string, n int) dir {
	b := x.bytes(name)
	return x.with(file(name, b[:len(b)-n]))
}

// turned is these files with one byte of one of them turned.
func (x dir) turned(name string, i int) dir {
	b := x.bytes(name)
	b[i] ^= 0x41
	return x.with(file(name, b))
}

// more is these files with some bytes behind one of them.
func (x dir) more(name string, data ...byte) dir {
	return x.with(file(name, append(x.bytes(name), data...)))
}

// shuffled is these files in another order.
func (x dir) shuffled(r *rand.Rand) dir {
	x = slices.Clone(x)
	r.Shuffle(len(x), func(i, k int) { x[i], x[k] = x[k], x[i] })
	return x
}

// sealed is the frame of a body.
func sealed(body []byte) []byte {
	b, e := frame.Seal(nil, body)
	if e != api.OK {
		panic(e)
	}
	return b
}

// history is the transaction of each number.
func history(n int) api.Txn {
	if n%4 == 1 {
		code := []api.Instr{{Op: api.OpArg}, {Op: api.OpSet, A: 1, Value: num(n)}, {Op: api.OpPut, B: 1}}
		return api.Txn{Kind: api.TxnDefine, Proc: api.Proc{Name: "put", Args: 1, Code: code}}
	}
	return api.Txn{Kind: api.TxnCall, Name: "put", Args: []api.Value{text(fmt.Sprint("key ", n%3))}}
}

func num(n int) api.Value { return api.Value{Kind: api.KindInt, Int: int64(n)} }

func text(s string) api.Value { return api.Value{Kind: api.KindText, Text: s} }

// rows is batches of so many transactions each, from a number on.
func rows(first int, counts ...int) []byte {
	var b []byte
	for _, count := range counts {
		one := api.Batch{First: first}
		for i := range count {
			one.Txns = append(one.Txns, history(first+i))
		}
		body, e := batch.Encode(one)
		if e != api.OK {
			panic(fmt.Sprint(first, count, e))
		}
		b = append(b, sealed(body)...)
		first += count
	}
	return b
}

// seg is a segment from a number on, in batches of so many transactions.
func seg(first int, counts ...int) api.FileBytes {
	return file(logName(first), rows(first, counts...))
}

// size is a segment as an opening tells it that has read it.
func size(first int, counts ...int) api.Segment {
	return api.Segment{First: first, Size: len(rows(first, counts...))}
}

// unread is segments as an opening tells them that has not read them.
func unread(firsts ...int) []api.Segment {
	var out []api.Segment
	for _, n := range firsts {
		out = append(out, api.Segment{First: n})
	}
	return out
}

// image is the bytes of a checkpoint, in several frames.
func image(number, mark int) []byte {
	w, e := page.New(number, mark)
	if e != api.OK {
		panic(e)
	}
	var b []byte
	lay := func(piece []byte, e api.Errno) {
		if e != api.OK {
			panic(e)
		}
		b = append(b, piece...)
	}
	if mark > 0 {
		lay(w.Page([]api.Proc{history(1).Proc}, []api.Entry{{Key: "key 0", Value: num(mark)}}))
		lay(w.Page(nil, []api.Entry{{Key: "key 1", Value: text("a text")}, {Key: "key 2", Value: num(-1)}}))
	}
	lay(w.End())
	return b
}

func ck(number, mark int) api.FileBytes { return file(ckptName(number), image(number, mark)) }

func of(number, file, mark, prev, prevMark int) api.Manifest {
	return api.Manifest{Number: number, File: file, Mark: mark, Prev: prev, PrevMark: prevMark}
}

// man is the file of a manifest.
func man(m api.Manifest) api.FileBytes {
	b, e := manifest.Encode(m)
	if e != api.OK {
		panic(fmt.Sprint(m, e))
	}
	return file("manifest", b)
}

// marked is a checkpoint of a mark and its manifest, without a log.
func marked(mark int) dir { return dir{man(of(1, 4, mark, 0, 0)), ck(4, mark)} }

// two is two checkpoints, of the marks 6 and 3, and a log that reaches both.
func two() dir {
	return dir{man(of(7, 9, 6, 5, 3)), ck(9, 6), ck(5, 3), seg(1, 2), seg(3, 1, 1), seg(5, 2), seg(7, 1), seg(8, 1)}
}

// words is the files in few words.
func (x dir) words() string {
	var w strings.Builder
	for _, f := range x {
		fmt.Fprintf(&w, "%q (%d) ", f.Name, len(f.Data))
	}
	return w.String()
}

func listed[V any](l []V) []V { return append([]V(nil), l...) }

// tidy is a Report in lists of its own, one without an element being none.
func tidy(r api.Report) api.Report {
	r.Segments, r.Needed, r.Left, r.Others = listed(r.Segments), listed(r.Needed), listed(r.Left), listed(r.Others)
	return r
}

func same(a, b api.Report) bool { return reflect.DeepEqual(tidy(a), tidy(b)) }

// disk is a disk with those of these files whose names a disk takes, safe; and whether it has room for them.
func (x dir) disk(t testing.TB) (*disk.Disk, bool) {
	t.Helper()
	d, e := disk.New(api.MaxRoom, api.MaxFiles)
	if e != api.OK {
		t.Fatal(e)
	}
	for _, f := range x {
		if e := d.Hand(f.Name, f.Data); e != api.OK && e != api.ErrName {
			return nil, false
		}
	}
	return d, true
}

// agrees looks at a directory, and holds what is told against the chapter's words, against what follows, and against an opening.
func agrees(t testing.TB, why string, x dir) api.Report {
	t.Helper()
	got := audit.Look(x)
	if want := slowLook(x); !same(got, want) {
		t.Errorf("P20.1: %s: %s: %+v, not %+v", why, x.words(), got, want)
	}
	if again := audit.Look(x); !same(got, again) {
		t.Errorf("W2: %s: %s: %+v, and %+v again", why, x.words(), got, again)
	}
	if got.Err == api.ErrArg {
		return got
	}
	follows(t, why, x, got)
	opens(t, why, x, got)
	return got
}

// follows asks for what follows (P20.2, P20.3), whatever the files are.
func follows(t testing.TB, why string, x dir, got api.Report) {
	t.Helper()
	var names []string
	for _, f := range x {
		names = append(names, f.Name)
	}
	slices.Sort(names)
	all := slices.Concat(got.Needed, got.Left, got.Others)
	slices.Sort(all)
	if !slices.Equal(all, names) || !slices.IsSorted(got.Left) || !slices.IsSorted(got.Others) {
		t.Errorf("P20.2: %s: %s: %+v", why, x.words(), got)
	}
	o := got.Opened
	if o.Base < 0 || o.Base > o.Last || o.Replayed != o.Last-o.Base || o.Torn < 0 {
		t.Errorf("P20.3: %s: %s: %+v", why, x.words(), o)
	}
	for i := range got.Segments {
		if i > 0 && got.Segments[i].First <= got.Segments[i-1].First {
			t.Errorf("P20.3: %s: %s: %+v", why, x.words(), got.Segments)
		}
	}
}

// opens asks that an opening answers and does what was told.
func opens(t testing.TB, why string, x dir, got api.Report) {
	t.Helper()
	d, fits := x.disk(t)
	if !fits {
		return
	}
	s, e := revive.Open(d, 2)
	if e != got.Err || d.Reads() != len(got.Needed) {
		t.Errorf("P0.10: %s: %s: an opening answers %v behind %d readings: %+v", why, x.words(), e, d.Reads(), got)
		return
	}
	if e != api.OK {
		return
	}
	told := api.Report{Opened: s.Opened, Has: s.Has, Manifest: s.Manifest, Segments: s.Segments, Needed: got.Needed, Left: got.Left, Others: got.Others}
	if !same(told, got) {
		t.Errorf("P0.10: %s: %s: an opening tells %+v, not %+v", why, x.words(), told, got)
	}
}

// garbled is these files, all but some with bytes that nothing can be made of.
func (x dir) garbled(but []string) dir {
	var out dir
	for _, f := range x {
		if !slices.Contains(but, f.Name) {
			f.Data = []byte{1, 2, 3}
		}
		out = append(out, f)
	}
	return out
}

// readsInOrder asks an opening which files it reads: with nothing but the first k of them as they are, it comes to the next reading, and no further.
func readsInOrder(t testing.TB, why string, x dir, got api.Report) {
	t.Helper()
	for k := range len(got.Needed) + 1 {
		d, fits := x.garbled(got.Needed[:k]).disk(t)
		if !fits {
			return
		}
		d.Plan(api.Plan{Reads: []api.Fault{{At: k + 1, Kind: api.FaultIO}}})
		_, e := revive.Open(d, 1)
		want, reads := api.ErrIO, k+1
		if k == len(got.Needed) {
			want, reads = got.Err, k
		}
		if e != want || d.Reads() != reads {
			t.Errorf("P20.1: %s: %s: %q are not what an opening reads first: %v, %d readings", why, x.words(), got.Needed[:k], e, d.Reads())
		}
	}
}

// told asks for a Report, by all means there are.
func (x dir) told(t testing.TB, want api.Report) {
	t.Helper()
	got := agrees(t, "told", x)
	if !same(got, want) {
		t.Errorf("P20.1: %s: %+v, not %+v", x.words(), got, want)
	}
	if got.Err != api.ErrArg {
		readsInOrder(t, "told", x, got)
	}
}

// found asks that all fits together: what an opening finds, and which files it reads; all others are the store's own.
func (x dir) found(t testing.TB, o api.Opened, segments []api.Segment, needed ...string) {
	t.Helper()
	x.told(t, x.report(api.Report{Opened: o, Segments: segments}, needed))
}

// damaged asks for ErrDamage, behind these readings.
func (x dir) damaged(t testing.TB, needed ...string) {
	t.Helper()
	x.told(t, x.report(api.Report{Err: api.ErrDamage}, needed))
}

// report lays into a Report which files are read, which are left, and what a manifest says that is the first of those that are read.
func (x dir) report(r api.Report, needed []string) api.Report {
	r.Needed = needed
	if len(needed) > 0 && needed[0] == "manifest" {
		m, e := manifest.Decode(x.bytes("manifest"))
		r.Has, r.Manifest = e == api.OK, m
	}
	for _, f := range x {
		if !slices.Contains(needed, f.Name) {
			r.Left = append(r.Left, f.Name)
		}
	}
	slices.Sort(r.Left)
	return r
}
