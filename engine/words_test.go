package engine_test

import (
	"fmt"
	"math"
	"reflect"
	"slices"
	"strconv"
	"strings"
	"testing"

	"treadle/api"
	"treadle/asm"
	"treadle/batch"
	"treadle/disk"
	"treadle/engine"
	"treadle/frame"
	"treadle/manifest"
	"treadle/page"
)

// most is the greatest number there may be, written out.
const most = 281474976710655

func num(n int) api.Value { return api.Value{Kind: api.KindInt, Int: int64(n)} }

func text(s string) api.Value { return api.Value{Kind: api.KindText, Text: s} }

func call(name string, args ...api.Value) api.Txn {
	return api.Txn{Kind: api.TxnCall, Name: name, Args: args}
}

func define(lines ...string) api.Txn {
	p, line, e := asm.Parse(strings.Join(append(lines, "end"), "\n"))
	if e != api.OK {
		panic(fmt.Sprint(lines, line, e))
	}
	return api.Txn{Kind: api.TxnDefine, Proc: p}
}

// history is the transaction of each number. What comes of them, and what they tell, hangs on their order: a fold takes
// what a key has from a number, so that one that is left out, done twice or elsewhere is seen. Some give up.
func history(n int) api.Txn {
	key := text("key " + strconv.Itoa(n%3))
	switch {
	case n == 1:
		return define("proc fold 2", "arg r0 0", "arg r1 1", "get r2 r0", "skip 1 r2 != r9", "set r2 0", "sub r2 r1 r2", "put r0 r2", "tell r2")
	case n == 2:
		return define("proc drop 1", "arg r0 0", "get r1 r0", "need r1 != r9", "del r0", "tell r1")
	case n%7 == 0:
		return call("drop", key)
	case n%5 == 2:
		return define("proc made"+strconv.Itoa(n%4)+" 0", "set r0 \"made\"", "set r1 \"by "+strconv.Itoa(n)+"\"", "put r0 r1", "tell r1")
	case n%5 == 3:
		return call("made" + strconv.Itoa(n%4))
	case n%5 == 4:
		return call("fold", key, text("no number"))
	}
	return call("fold", key, num(n%1000*(n%1000)))
}

// between is the history's transactions of two numbers, and those between.
func between(first, last int) []api.Txn {
	var txns []api.Txn
	for n := first; n <= last; n++ {
		txns = append(txns, history(n))
	}
	return txns
}

// at is the fold of the history's transactions up to a number.
func at(last int) state {
	s := newState()
	for _, x := range between(1, last) {
		s.do(x)
	}
	return s
}

// stamped is that fold with a key that the history never touches: what the checkpoint of a number says, and nobody else.
func stamped(mark, number int) state {
	s := at(mark)
	s.values["checkpoint"] = num(number)
	return s
}

// from is a state with the history's transactions of two numbers, and those between, done on it.
func (s state) from(first, last int) state {
	for _, x := range between(first, last) {
		s.do(x)
	}
	return s
}

// dir is the files of a disk.
type dir []api.FileBytes

func file(name string, data []byte) api.FileBytes { return api.FileBytes{Name: name, Data: data} }

func logName(first int) string { return fmt.Sprintf("log-%012x", first) }

func ckptName(number int) string { return fmt.Sprintf("ckpt-%012x", number) }

// with is these files and some more, which take the place of those with their names.
func (x dir) with(more ...api.FileBytes) dir {
	for _, f := range more {
		x = append(x.without(f.Name), f)
	}
	return x
}

func (x dir) without(names ...string) dir {
	return slices.DeleteFunc(slices.Clone(x), func(f api.FileBytes) bool { return slices.Contains(names, f.Name) })
}

// bytes is those of a file.
func (x dir) bytes(name string) []byte {
	for _, f := range x {
		if f.Name == name {
			return slices.Clone(f.Data)
		}
	}
	panic("no file " + name)
}

// names is theirs.
func (x dir) names() []string {
	var names []string
	for _, f := range x {
		names = append(names, f.Name)
	}
	return names
}

// words is the files in few words.
func (x dir) words() string {
	var w strings.Builder
	for _, f := range x {
		fmt.Fprintf(&w, "%s (%d) ", f.Name, len(f.Data))
	}
	return w.String()
}

// disk is a disk with these files, safe.
func (x dir) disk(t testing.TB) *disk.Disk {
	t.Helper()
	d, e := disk.New(100000, 60)
	if e != api.OK {
		t.Fatal(e)
	}
	for _, f := range x {
		if e := d.Hand(f.Name, f.Data); e != api.OK {
			t.Fatal(f.Name, e)
		}
	}
	return d
}

// row is the frame of a batch.
func row(first int, txns ...api.Txn) []byte {
	body, e := batch.Encode(api.Batch{First: first, Txns: txns})
	if e != api.OK {
		panic(fmt.Sprint(first, len(txns), e))
	}
	b, e := frame.Seal(nil, body)
	if e != api.OK {
		panic(e)
	}
	return b
}

// rows is batches of so many transactions of the history each, from a number on.
func rows(first int, counts ...int) []byte {
	var b []byte
	for _, count := range counts {
		b = append(b, row(first, between(first, first+count-1)...)...)
		first += count
	}
	return b
}

// seg is a segment of the history from a number on, in batches of so many transactions.
func seg(first int, counts ...int) api.FileBytes { return file(logName(first), rows(first, counts...)) }

// image is the bytes of a checkpoint, in pieces of so many entries at most.
func image(number, mark, each int, s state) []byte {
	w, e := page.New(number, mark)
	if e != api.OK {
		panic(e)
	}
	var b []byte
	lay := func(piece []byte, e api.Errno) {
		if e != api.OK {
			panic(e)
		}
		b = append(b, piece...)
	}
	var procs []api.Proc
	var entries []api.Entry
	out := func() {
		if len(procs)+len(entries) > 0 {
			lay(w.Page(procs, entries))
		}
		procs, entries = nil, nil
	}
	for _, name := range sortedKeys(s.procs) {
		procs = append(procs, s.procs[name])
		if len(procs) == each {
			out()
		}
	}
	for _, entry := range s.entries() {
		entries = append(entries, entry)
		if len(procs)+len(entries) == each {
			out()
		}
	}
	out()
	lay(w.End())
	return b
}

// ck is a checkpoint of the history, stamped.
func ck(number, mark int) api.FileBytes {
	return file(ckptName(number), image(number, mark, 1, stamped(mark, number)))
}

func of(number, file, mark, prev, prevMark int) api.Manifest {
	return api.Manifest{Number: number, File: file, Mark: mark, Prev: prev, PrevMark: prevMark}
}

func manifestBytes(m api.Manifest) []byte {
	b, e := manifest.Encode(m)
	if e != api.OK {
		panic(fmt.Sprint(m, e))
	}
	return b
}

// man is the file of a manifest.
func man(m api.Manifest) api.FileBytes { return file("manifest", manifestBytes(m)) }

// world is a disk and an Engine on it.
type world struct {
	t testing.TB
	d *disk.Disk
	x *engine.Engine
}

// usual is rules by which segments and pages are small.
var usual = api.Rules{Segment: 150, Page: 2, Workers: 2}

// open opens a disk; the strokes are counted from then on.
func open(t testing.TB, d *disk.Disk, rules api.Rules) world {
	t.Helper()
	x, _, e := engine.Open(d, rules)
	if e != api.OK || x == nil {
		t.Fatalf("P18.1: Open(%+v) of %s: %v", rules, dir(d.Files()).words(), e)
	}
	d.Plan(api.Plan{})
	return world{t, d, x}
}

// opened is an Engine on these files.
func (x dir) opened(t testing.TB, rules api.Rules) world {
	t.Helper()
	return open(t, x.disk(t), rules)
}

// fresh is an Engine on a disk without a file.
func fresh(t testing.TB) world { return dir{}.opened(t, usual) }

// submit submits the history's transactions of two numbers, and those between, in one batch.
func (w world) submit(first, last int) {
	w.t.Helper()
	if n, l, e := w.x.Submit(between(first, last)); n != first || len(l) != last-first+1 || e != api.OK {
		w.t.Fatalf("P18.2: Submit of %d to %d: %d, %v, %v", first, last, n, l, e)
	}
}

func (w world) flush(want int) {
	w.t.Helper()
	if n, e := w.x.Flush(); n != want || e != api.OK {
		w.t.Fatalf("P18.3: Flush: %d, %v, not %d", n, e, want)
	}
}

func (w world) start(want api.Errno) {
	w.t.Helper()
	if e := w.x.Start(); e != want {
		w.t.Fatalf("P18.5: Start: %v, not %v", e, want)
	}
}

func (w world) step(n int, want bool, err api.Errno) {
	w.t.Helper()
	if is, e := w.x.Step(n); is != want || e != err {
		w.t.Fatalf("P18.6: Step(%d): %v, %v, not %v, %v", n, is, e, want, err)
	}
}

// end brings a checkpoint to its end.
func (w world) end() {
	w.t.Helper()
	for range 1000 {
		if is, e := w.x.Step(api.MaxPage); is || e != api.OK {
			if e != api.OK {
				w.t.Fatalf("P18.6: %v", e)
			}
			return
		}
	}
	w.t.Fatal("P18.6: no end")
}

// brink goes on with a checkpoint till one step is left, as far as its pages are of two entries and it says that state.
func (w world) brink(s state) {
	w.t.Helper()
	for left := len(s.procs) + len(s.values); left > 2; left -= 2 {
		w.step(2, false, api.OK)
	}
}

func (w world) trim(want api.Errno) {
	w.t.Helper()
	if e := w.x.Trim(); e != want {
		w.t.Fatalf("P18.7: Trim: %v, not %v", e, want)
	}
}

func (w world) close() {
	w.t.Helper()
	if e := w.x.Close(); e != api.OK {
		w.t.Fatalf("P18.8: Close: %v", e)
	}
}

// shows asks for what an Engine tells of itself.
func (w world) shows(why string, want api.Sight) {
	w.t.Helper()
	if got := w.x.Sight(); got != want {
		w.t.Errorf("%s: %+v, not %+v", why, got, want)
	}
}

// has asks for the state.
func (w world) has(why string, want state) {
	w.t.Helper()
	if got := entriesOf(w.t, w.x); !slices.Equal(got, want.entries()) {
		w.t.Errorf("%s: the state is %v, not %v", why, got, want.entries())
	}
}

// entriesOf is all that an Engine has.
func entriesOf(t testing.TB, x *engine.Engine) []api.Entry {
	t.Helper()
	l, e := x.Range("", "", math.MaxInt)
	if e != api.OK {
		t.Fatalf("P18.4: %v", e)
	}
	return l
}

// refuses asks that a call answers an error and changes nothing, of the disk neither.
func (w world) refuses(why string, want api.Errno, calls ...func(x *engine.Engine) api.Errno) {
	w.t.Helper()
	for i, call := range calls {
		ahead, sight := sightOf(w.d), w.x.Sight()
		var had []api.Entry
		if !sight.Closed {
			had = entriesOf(w.t, w.x)
		}
		if e := call(w.x); e != want {
			w.t.Errorf("%s: call %d: %v, not %v", why, i, e, want)
		}
		sameSight(w.t, "P18.12: "+why, sightOf(w.d), ahead)
		w.shows("P18.12: "+why, sight)
		if !sight.Closed && !slices.Equal(entriesOf(w.t, w.x), had) {
			w.t.Errorf("P18.12: %s: the state has changed", why)
		}
	}
}

// Each call, with what it answers beside its error asked for.

func submitting(txns ...api.Txn) func(*engine.Engine) api.Errno {
	return func(x *engine.Engine) api.Errno {
		n, l, e := x.Submit(txns)
		return withZero(e, n == 0 && len(l) == 0)
	}
}

func flushing(x *engine.Engine) api.Errno {
	n, e := x.Flush()
	return withZero(e, n == 0)
}

func starting(x *engine.Engine) api.Errno { return x.Start() }

func stepping(n int) func(*engine.Engine) api.Errno {
	return func(x *engine.Engine) api.Errno {
		is, e := x.Step(n)
		return withZero(e, !is)
	}
}

func trimming(x *engine.Engine) api.Errno { return x.Trim() }

func closing(x *engine.Engine) api.Errno { return x.Close() }

func reading(key string) func(*engine.Engine) api.Errno {
	return func(x *engine.Engine) api.Errno {
		v, e := x.Read(key)
		return withZero(e, v == api.Value{})
	}
}

func ranging(from, to string, n int) func(*engine.Engine) api.Errno {
	return func(x *engine.Engine) api.Errno {
		l, e := x.Range(from, to, n)
		return withZero(e, len(l) == 0)
	}
}

// withZero is an error; no error at all, if what came with it is not zero (W3).
func withZero(e api.Errno, zero bool) api.Errno {
	if e != api.OK && !zero {
		return -1
	}
	return e
}

// sight is all that a disk shows of itself.
type sight struct {
	files, safe  []api.FileBytes
	names        int
	changes      []int
	bytes, count int
	off          bool
	strokes      int
	reads        int
}

func sightOf(d *disk.Disk) sight {
	s := sight{files: d.Files(), safe: d.Safe(), off: d.Off(), strokes: d.Strokes(), reads: d.Reads()}
	s.names, s.changes = d.Pending()
	s.bytes, s.count = d.Held()
	return s
}

func sameSight(t testing.TB, why string, got, want sight) {
	t.Helper()
	if !reflect.DeepEqual(got, want) {
		t.Errorf("%s: the disk has %s, not %s", why, inWords(got), inWords(want))
	}
}

// inWords is a sight in few words.
func inWords(s sight) string {
	return fmt.Sprintf("files %ssafe %spending %d, %v; held %d, %d; off %v; %d strokes, %d readings",
		dir(s.files).words(), dir(s.safe).words(), s.names, s.changes, s.bytes, s.count, s.off, s.strokes, s.reads)
}

// off turns a disk's power off.
func off(t testing.TB, d *disk.Disk) {
	t.Helper()
	d.Plan(strokeFails(1, api.FaultOff))
	if e := d.SyncNames(); e != api.ErrOff || !d.Off() {
		t.Fatal(e)
	}
}

// fault is what can come of a stroke or a reading, and the error it has.
type fault struct {
	kind int
	e    api.Errno
}

func faults() []fault {
	return []fault{{api.FaultOff, api.ErrOff}, {api.FaultIO, api.ErrIO}, {api.FaultFull, api.ErrFull}}
}

func strokeFails(k, kind int) api.Plan {
	return api.Plan{Strokes: []api.Fault{{At: k, Kind: kind}}}
}

func readFails(k, kind int) api.Plan {
	return api.Plan{Reads: []api.Fault{{At: k, Kind: kind}}}
}

// anyWorkers is numbers of workers, sound ones and others.
func anyWorkers() []int { return []int{1, 2, 3, 16, 17, 0, -1, math.MaxInt, math.MinInt} }

// beat is a stroke, and what is done behind it, if it fails.
type beat struct {
	do    func(d *disk.Disk) api.Errno
	after func(d *disk.Disk)
}

func (b beat) elseRemove(name string) beat {
	b.after = func(d *disk.Disk) { d.Remove(name) }
	return b
}

func create(name string) beat {
	return beat{do: func(d *disk.Disk) api.Errno { return d.Create(name) }}
}

func lay(name string, data []byte) beat {
	return beat{do: func(d *disk.Disk) api.Errno { return d.Append(name, data) }}
}

func syncs(name string) beat {
	return beat{do: func(d *disk.Disk) api.Errno { return d.Sync(name) }}
}

func syncsNames() beat { return beat{do: func(d *disk.Disk) api.Errno { return d.SyncNames() }} }

func rename(from, to string) beat {
	return beat{do: func(d *disk.Disk) api.Errno { return d.Rename(from, to) }}
}

func remove(name string) beat {
	return beat{do: func(d *disk.Disk) api.Errno { return d.Remove(name) }}
}

// installs is the strokes of a manifest that is installed, no new one being there.
func installs(m api.Manifest) []beat {
	return []beat{create("manifest.new"), lay("manifest.new", manifestBytes(m)), syncs("manifest.new"), rename("manifest.new", "manifest"), syncsNames()}
}

// strokesAre asks that a call does these strokes in this order, and no other, and answers the error of the one that fails:
// none fails, or one of them in each way, and the disk is held against one on which they are done by hand.
// Behind each call `behind` is asked, with the number of the stroke that failed (0: none did).
func strokesAre(t testing.TB, why string, build func() world, act func(*engine.Engine) api.Errno, want []beat, behind func(w world, k int, why string)) {
	t.Helper()
	for k := range len(want) + 2 {
		for _, f := range faults() {
			w, by := build(), build()
			why := fmt.Sprintf("%s: stroke %d of %d, fault %d", why, k, len(want), f.kind)
			w.d.Plan(strokeFails(k, f.kind))
			by.d.Plan(strokeFails(k, f.kind))
			e, we := act(w.x), byHand(by.d, want)
			if e != we {
				t.Errorf("%s: %v, not %v", why, e, we)
			}
			sameSight(t, why, sightOf(w.d), sightOf(by.d))
			if behind != nil {
				behind(w, k%(len(want)+1), why)
			}
		}
	}
}

func byHand(d *disk.Disk, beats []beat) api.Errno {
	for _, b := range beats {
		if e := b.do(d); e != api.OK {
			if b.after != nil {
				b.after(d)
			}
			return e
		}
	}
	return api.OK
}
