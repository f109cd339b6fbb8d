package revive_test

import (
	"fmt"
	"math"
	"reflect"
	"slices"
	"strconv"
	"strings"
	"testing"

	"treadle/api"
	"treadle/asm"
	"treadle/batch"
	"treadle/disk"
	"treadle/frame"
	"treadle/manifest"
	"treadle/page"
	"treadle/revive"
	"treadle/zigzag"
)

// most is the greatest number there may be, written out.
const most = 281474976710655

func num(n int) api.Value { return api.Value{Kind: api.KindInt, Int: int64(n)} }

func text(s string) api.Value { return api.Value{Kind: api.KindText, Text: s} }

func call(name string, args ...api.Value) api.Txn {
	return api.Txn{Kind: api.TxnCall, Name: name, Args: args}
}

func define(lines ...string) api.Txn {
	p, line, e := asm.Parse(strings.Join(append(lines, "end"), "\n"))
	if e != api.OK {
		panic(fmt.Sprint(lines, line, e))
	}
	return api.Txn{Kind: api.TxnDefine, Proc: p}
}

// history is the transaction of each number. What comes of them hangs on their order: a fold takes
// what a key has from a number, so that one that is left out, done twice or elsewhere is seen.
func history(n int) api.Txn {
	key := text("key " + strconv.Itoa(n%3))
	switch {
	case n == 1:
		return define("proc fold 2", "arg r0 0", "arg r1 1", "get r2 r0", "skip 1 r2 != r9", "set r2 0", "sub r2 r1 r2", "put r0 r2")
	case n == 2:
		return define("proc drop 1", "arg r0 0", "del r0")
	case n%7 == 0:
		return call("drop", key)
	case n%5 == 2:
		return define("proc made"+strconv.Itoa(n%4)+" 0", "set r0 \"made\"", "set r1 \"by "+strconv.Itoa(n)+"\"", "put r0 r1")
	case n%5 == 3:
		return call("made" + strconv.Itoa(n%4))
	case n%5 == 4:
		return call("fold", key, text("no number"))
	}
	return call("fold", key, num(n%1000*(n%1000)))
}

// others is transactions that history does not have.
func others(n int) api.Txn {
	if n == 1 {
		return define("proc other 1", "arg r0 0", "set r1 \"other\"", "put r1 r0")
	}
	return call("other", num(n))
}

// state is which procedures and which keys there are.
type state struct {
	procs  map[string]api.Proc
	values map[string]api.Value
}

func newState() state { return state{map[string]api.Proc{}, map[string]api.Value{}} }

// at is the fold of the history's transactions up to a number.
func at(last int) state {
	s := newState()
	for n := 1; n <= last; n++ {
		s.do(history(n))
	}
	return s
}

// stamped is that fold with a key that the history never touches: what the checkpoint of a number says, and nobody else.
func stamped(mark, number int) state {
	s := at(mark)
	s.values["checkpoint"] = num(number)
	return s
}

// from is a state with the history's transactions of two numbers, and those between, done on it.
func (s state) from(first, last int) state {
	for n := first; n <= last; n++ {
		s.do(history(n))
	}
	return s
}

// stateOf is what two stores have.
func stateOf(values *zigzag.Store[api.Value], procs *zigzag.Store[api.Proc]) state {
	s := newState()
	for name, p := range procs.Range("", "") {
		s.procs[name] = p
	}
	for key, v := range values.Range("", "") {
		s.values[key] = v
	}
	return s
}

// words is a state in words, the same for the same states.
func (s state) words() string {
	var w strings.Builder
	for _, name := range sortedKeys(s.procs) {
		p := s.procs[name]
		fmt.Fprintf(&w, "%q: %q %d %q; ", name, p.Name, p.Args, fmt.Sprintf("%+v", p.Code))
	}
	for _, key := range sortedKeys(s.values) {
		fmt.Fprintf(&w, "%q %d %d %q; ", key, s.values[key].Kind, s.values[key].Int, s.values[key].Text)
	}
	return w.String()
}

func sortedKeys[V any](m map[string]V) []string {
	var keys []string
	for k := range m {
		keys = append(keys, k)
	}
	slices.Sort(keys)
	return keys
}

// dir is the files of a disk.
type dir []api.FileBytes

func file(name string, data []byte) api.FileBytes { return api.FileBytes{Name: name, Data: data} }

func named(beginning string, number int) string { return fmt.Sprintf("%s%012x", beginning, number) }

func logName(first int) string { return named("log-", first) }

func ckptName(number int) string { return named("ckpt-", number) }

// with is these files and some more, which take the place of those with their names.
func (x dir) with(more ...api.FileBytes) dir {
	for _, f := range more {
		x = append(x.without(f.Name), f)
	}
	return x
}

func (x dir) without(names ...string) dir {
	return slices.DeleteFunc(slices.Clone(x), func(f api.FileBytes) bool { return slices.Contains(names, f.Name) })
}

// bytes is those of a file.
func (x dir) bytes(name string) []byte {
	for _, f := range x {
		if f.Name == name {
			return slices.Clone(f.Data)
		}
	}
	panic("no file " + name)
}

// cut is these files, one of them without its last n bytes.
func (x dir) cut(name string, n int) dir {
	b := x.bytes(name)
	return x.with(file(name, b[:len(b)-n]))
}

// turned is these files with one byte of one of them turned.
func (x dir) turned(name string, i int) dir {
	b := x.bytes(name)
	b[i] ^= 0x41
	return x.with(file(name, b))
}

// more is these files with some bytes behind one of them.
func (x dir) more(name string, data ...byte) dir {
	return x.with(file(name, append(x.bytes(name), data...)))
}

// disk is a disk with these files, safe.
func (x dir) disk(t testing.TB) *disk.Disk {
	t.Helper()
	d, e := disk.New(api.MaxRoom, api.MaxFiles)
	if e != api.OK {
		t.Fatal(e)
	}
	for _, f := range x {
		if e := d.Hand(f.Name, f.Data); e != api.OK {
			t.Fatal(f.Name, e)
		}
	}
	return d
}

// sealed is the frame of a body.
func sealed(body []byte) []byte {
	b, e := frame.Seal(nil, body)
	if e != api.OK {
		panic(e)
	}
	return b
}

// rowOf is the frame of a batch.
func rowOf(first int, txns ...api.Txn) []byte {
	body, e := batch.Encode(api.Batch{First: first, Txns: txns})
	if e != api.OK {
		panic(fmt.Sprint(first, len(txns), e))
	}
	return sealed(body)
}

// rows is batches of so many transactions each, from a number on.
func rows(first int, of func(int) api.Txn, counts ...int) []byte {
	var b []byte
	for _, count := range counts {
		var txns []api.Txn
		for i := range count {
			txns = append(txns, of(first+i))
		}
		b = append(b, rowOf(first, txns...)...)
		first += count
	}
	return b
}

// seg is a segment of the history from a number on, in batches of so many transactions.
func seg(first int, counts ...int) api.FileBytes {
	return file(logName(first), rows(first, history, counts...))
}

// size is how many bytes it has.
func size(first int, counts ...int) int { return len(seg(first, counts...).Data) }

// image is the bytes of a checkpoint, in pages of a few entries.
func image(number, mark int, s state) []byte {
	w, e := page.New(number, mark)
	var b []byte
	lay := func(piece []byte, e api.Errno) {
		if e != api.OK {
			panic(e)
		}
		b = append(b, piece...)
	}
	if e != api.OK {
		panic(e)
	}
	for _, name := range sortedKeys(s.procs) {
		lay(w.Page([]api.Proc{s.procs[name]}, nil))
	}
	for _, key := range sortedKeys(s.values) {
		lay(w.Page(nil, []api.Entry{{Key: key, Value: s.values[key]}}))
	}
	lay(w.End())
	return b
}

// ck is a checkpoint of the history, stamped.
func ck(number, mark int) api.FileBytes {
	return file(ckptName(number), image(number, mark, stamped(mark, number)))
}

func of(number, file, mark, prev, prevMark int) api.Manifest {
	return api.Manifest{Number: number, File: file, Mark: mark, Prev: prev, PrevMark: prevMark}
}

// man is the file of a manifest.
func man(m api.Manifest) api.FileBytes {
	b, e := manifest.Encode(m)
	if e != api.OK {
		panic(fmt.Sprint(m, e))
	}
	return file("manifest", b)
}

// found asks that an opening goes through, and for what it tells, the readings, the strokes and the state.
func (x dir) found(t testing.TB, want api.Opened, reads, strokes int, s state) *revive.State {
	t.Helper()
	got, e, d := agrees(t, "P17.1", func() *disk.Disk { return x.disk(t) }, 2)
	if e != api.OK {
		t.Errorf("P17.1: %s: %v", x.words(), e)
		return nil
	}
	if got.Opened != want || got.Next != want.Last+1 || d.Reads() != reads || d.Strokes() != strokes {
		t.Errorf("P17.1: %s: %+v, next %d, %d readings, %d strokes, not %+v, %d, %d", x.words(), got.Opened, got.Next, d.Reads(), d.Strokes(), want, reads, strokes)
	}
	if is := stateOf(got.Values, got.Procs); is.words() != s.words() {
		t.Errorf("P17.1: %s: the state is %s, not %s", x.words(), is.words(), s.words())
	}
	return got
}

// damaged asks for ErrDamage behind so many readings.
func (x dir) damaged(t testing.TB, reads int) {
	t.Helper()
	_, e, d := agrees(t, "P17.1", func() *disk.Disk { return x.disk(t) }, 2)
	if e != api.ErrDamage || d.Reads() != reads || d.Strokes() != 0 {
		t.Errorf("P17.1: %s: %v, %d readings, %d strokes, not ErrDamage, %d, 0", x.words(), e, d.Reads(), d.Strokes(), reads)
	}
}

// words is the files in few words.
func (x dir) words() string {
	var w strings.Builder
	for _, f := range x {
		fmt.Fprintf(&w, "%s (%d) ", f.Name, len(f.Data))
	}
	return w.String()
}

// segments asks for the segments of a state: First and Size in turn.
func segments(t testing.TB, s *revive.State, want ...int) {
	t.Helper()
	var got []int
	for _, x := range s.Segments {
		got = append(got, x.First, x.Size)
	}
	if !slices.Equal(got, want) {
		t.Errorf("P17.1: the segments are %v, not %v", got, want)
	}
}

// sight is all that a disk shows of itself.
type sight struct {
	files, safe  []api.FileBytes
	names        int
	changes      []int
	bytes, count int
	off          bool
	strokes      int
	reads        int
}

func sightOf(d *disk.Disk) sight {
	s := sight{files: d.Files(), safe: d.Safe(), off: d.Off(), strokes: d.Strokes(), reads: d.Reads()}
	s.names, s.changes = d.Pending()
	s.bytes, s.count = d.Held()
	return s
}

// sameDisk holds two disks against each other.
func sameDisk(t testing.TB, why string, d, want *disk.Disk) {
	t.Helper()
	sameSight(t, why, sightOf(d), sightOf(want))
}

func sameSight(t testing.TB, why string, got, want sight) {
	t.Helper()
	if !reflect.DeepEqual(got, want) {
		t.Errorf("%s: the disk has %s, not %s", why, inWords(got), inWords(want))
	}
}

// inWords is a sight in few words.
func inWords(s sight) string {
	return fmt.Sprintf("files %ssafe %spending %d, %v; held %d, %d; off %v; %d strokes, %d readings",
		dir(s.files).words(), dir(s.safe).words(), s.names, s.changes, s.bytes, s.count, s.off, s.strokes, s.reads)
}

// off turns a disk's power off.
func off(t testing.TB, d *disk.Disk) {
	t.Helper()
	d.Plan(strokeFails(1, api.FaultOff))
	if e := d.SyncNames(); e != api.ErrOff || !d.Off() {
		t.Fatal(e)
	}
}

// fault is what can come of a stroke or a reading, and the error it has.
type fault struct {
	kind int
	e    api.Errno
}

func faults() []fault {
	return []fault{{api.FaultOff, api.ErrOff}, {api.FaultIO, api.ErrIO}, {api.FaultFull, api.ErrFull}}
}

func strokeFails(k, kind int) api.Plan {
	return api.Plan{Strokes: []api.Fault{{At: k, Kind: kind}}}
}

func readFails(k, kind int) api.Plan {
	return api.Plan{Reads: []api.Fault{{At: k, Kind: kind}}}
}

// anyWorkers is numbers of workers, sound ones and others.
func anyWorkers() []int { return []int{1, 2, 3, 16, 17, 0, -1, math.MaxInt, math.MinInt} }
