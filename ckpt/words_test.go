package ckpt_test

import (
	"bytes"
	"fmt"
	"math"
	"reflect"
	"slices"
	"strings"
	"testing"

	"treadle/api"
	"treadle/ckpt"
	"treadle/disk"
	"treadle/zigzag"
)

// most is the greatest number there may be, written out.
const most = 281474976710655

var none = api.Manifest{}

func num(n int64) api.Value { return api.Value{Kind: api.KindInt, Int: n} }

func text(s string) api.Value { return api.Value{Kind: api.KindText, Text: s} }

// long is a text of n bytes that could stand as a name.
func long(n int) string { return strings.Repeat("x", n) }

// of is the manifest of five numbers.
func of(number, file, mark, prev, prevMark int) api.Manifest {
	return api.Manifest{Number: number, File: file, Mark: mark, Prev: prev, PrevMark: prevMark}
}

// state is which procedures and which keys there are, both rising.
type state struct {
	procs   []api.Proc
	entries []api.Entry
}

func (s state) size() int { return len(s.procs) + len(s.entries) }

// ones is an entry for each key.
func ones(keys ...string) []api.Entry {
	var out []api.Entry
	for i, k := range keys {
		out = append(out, api.Entry{Key: k, Value: num(int64(i))})
	}
	return out
}

// named is a procedure for each name.
func named(names ...string) []api.Proc {
	var out []api.Proc
	for i, n := range names {
		out = append(out, api.Proc{Name: n, Args: i % 17, Code: slices.Repeat([]api.Instr{{Op: api.OpStop}}, i%3)})
	}
	return out
}

// many is so many procedures and entries.
func many(procs, entries int) state {
	var names, keys []string
	for i := range procs {
		names = append(names, fmt.Sprintf("p%06d", i))
	}
	for i := range entries {
		keys = append(keys, fmt.Sprintf("k%06d", i))
	}
	return state{named(names...), ones(keys...)}
}

// example is the state of the chapter's examples.
func example() state { return state{[]api.Proc{{Name: "p"}}, ones("a", "b", "c")} }

// allForms is procedures and entries of many forms, at the limits of each.
func allForms() state {
	set := func(v api.Value) api.Instr { return api.Instr{Op: api.OpSet, A: 15, Value: v} }
	entry := func(key string, v api.Value) api.Entry { return api.Entry{Key: key, Value: v} }
	return state{
		[]api.Proc{
			{Name: "A"},
			{Name: "a", Args: 16},
			{Name: "ab", Code: slices.Repeat([]api.Instr{set(text(long(256)))}, 64)},
			{Name: "q", Code: []api.Instr{set(api.Value{}), set(num(math.MinInt64)), set(text("\x00\xff"))}},
			{Name: long(32), Code: []api.Instr{{Op: api.OpSkip, A: 1, B: 2, C: 3, N: 4}, {Op: api.OpSum, A: 1, B: 2, C: 3, N: 64}}},
		},
		[]api.Entry{
			entry("\x00", num(0)),
			entry("\x00\x00", num(-1)),
			entry("A", text("")),
			entry("a\x00", num(math.MinInt64)),
			entry("ab", num(math.MaxInt64)),
			entry("p", text(long(256))),
			entry(long(64), text("\x00\xff")),
			entry("\x80", num(8)),
			entry(strings.Repeat("\xff", 64), text(strings.Repeat("\xff", 256))),
		},
	}
}

// someStates is states in which the kinds end, and begin, at many places of a page.
func someStates() []state {
	all := []state{example(), allForms()}
	for _, n := range [][2]int{{0, 0}, {1, 0}, {2, 0}, {3, 0}, {0, 1}, {0, 2}, {0, 3}, {1, 1}, {2, 2}, {1, 2}, {2, 1}, {3, 2}} {
		all = append(all, many(n[0], n[1]))
	}
	return all
}

// world is what a checkpoint stands on.
type world struct {
	d      *disk.Disk
	values *zigzag.Store[api.Value]
	procs  *zigzag.Store[api.Proc]
}

// newWorld is stores with a state, and a disk with these files, safe.
func newWorld(t testing.TB, s state, there ...api.FileBytes) world {
	t.Helper()
	return worldOn(newDisk(t, 200000, 20, there...), s)
}

func worldOn(d *disk.Disk, s state) world {
	w := world{d, zigzag.New[api.Value](), zigzag.New[api.Proc]()}
	for _, p := range s.procs {
		w.procs.Put(p.Name, p)
	}
	for _, x := range s.entries {
		w.values.Put(x.Key, x.Value)
	}
	return w
}

// begin asks for a Begin that is taken.
func (w world) begin(t testing.TB, was api.Manifest, has bool, mark, page int) *ckpt.Job {
	t.Helper()
	j, e := ckpt.Begin(w.d, w.values, w.procs, was, has, mark, page)
	if e != api.OK || j == nil || !w.values.Marked() || !w.procs.Marked() {
		t.Fatalf("P16.2: Begin: %v, %v, marked %v, %v", j, e, w.values.Marked(), w.procs.Marked())
	}
	return j
}

// beginFails asks for an error of Begin, and that nothing but the count of strokes and the power has changed.
func (w world) beginFails(t testing.TB, was api.Manifest, has bool, mark, page int, want api.Errno) {
	t.Helper()
	ahead := sightOf(w)
	if j, e := ckpt.Begin(w.d, w.values, w.procs, was, has, mark, page); e != want || j != nil {
		t.Errorf("P16.2: Begin(%v, %v, %d, %d): %v, %v, not %v", was, has, mark, page, j, e, want)
	}
	behind := sightOf(w)
	ahead.strokes, ahead.off = behind.strokes, behind.off
	sameSight(t, "P16.2", behind, ahead)
}

// steps asks for what a Step answers.
func steps(t testing.TB, j *ckpt.Job, n int, m api.Manifest, is bool, want api.Errno) {
	t.Helper()
	if got, done, e := j.Step(n); got != m || done != is || e != want {
		t.Errorf("P16.3: Step(%d): %v, %v, %v, not %v, %v, %v", n, got, done, e, m, is, want)
	}
}

// toEnd goes on till a Step tells that the Job has come to its end; k is how many there were ahead of it.
func toEnd(t testing.TB, step func(k int) (api.Manifest, bool, api.Errno)) {
	t.Helper()
	for k := range 1000 {
		_, is, e := step(k)
		if is {
			return
		}
		if e != api.OK {
			t.Fatalf("P16.3: the Step behind %d: %v", k, e)
		}
	}
	t.Fatalf("P16.3: it comes to no end")
}

// idle asks that a Job is not going on.
func idle(t testing.TB, j *ckpt.Job) {
	t.Helper()
	for _, n := range []int{1, 128, 0, -1} {
		steps(t, j, n, none, false, api.ErrIdle)
	}
	j.Drop()
}

// free asks that neither store is marked.
func (w world) free(t testing.TB) {
	t.Helper()
	if w.values.Marked() || w.procs.Marked() {
		t.Errorf("P16.3: marked: %v, %v", w.values.Marked(), w.procs.Marked())
	}
}

// names asks for the names of the disk.
func (w world) names(t testing.TB, want ...string) {
	t.Helper()
	var got []string
	for _, f := range w.d.Files() {
		got = append(got, f.Name)
	}
	if !slices.Equal(got, want) {
		t.Errorf("P16.3: the names are %q, not %q", got, want)
	}
}

// newDisk is a disk with these files, safe.
func newDisk(t testing.TB, room, files int, there ...api.FileBytes) *disk.Disk {
	t.Helper()
	d, e := disk.New(room, files)
	if e != api.OK {
		t.Fatal(e)
	}
	for _, f := range there {
		if e := d.Hand(f.Name, f.Data); e != api.OK {
			t.Fatal(e)
		}
	}
	return d
}

// off turns a disk's power off.
func off(t testing.TB, d *disk.Disk) {
	t.Helper()
	d.Plan(failsAt(1, api.FaultOff))
	if e := d.SyncNames(); e != api.ErrOff || !d.Off() {
		t.Fatal(e)
	}
}

func file(name string, data []byte) api.FileBytes { return api.FileBytes{Name: name, Data: data} }

// empties is files without a byte.
func empties(names ...string) []api.FileBytes {
	var out []api.FileBytes
	for _, n := range names {
		out = append(out, file(n, nil))
	}
	return out
}

// bytesOf is the bytes of a file among others, and whether it is there.
func bytesOf(files []api.FileBytes, name string) ([]byte, bool) {
	for _, f := range files {
		if f.Name == name {
			return f.Data, true
		}
	}
	return nil, false
}

// holds asks for the bytes of a file of the disk.
func (w world) holds(t testing.TB, name string, want []byte) {
	t.Helper()
	if b, is := bytesOf(w.d.Files(), name); !is || !bytes.Equal(b, want) {
		t.Errorf("P16.3: %s: %v, %x, not %x", name, is, b, want)
	}
}

// sight is all that a disk and two stores show of themselves.
type sight struct {
	files, safe               []api.FileBytes
	names                     int
	changes                   []int
	bytes, count              int
	off                       bool
	strokes, reads            int
	marked                    [2]bool
	now, held                 state
	values, procs             int
	slotsOfKeys, slotsOfNames string
}

func sightOf(w world) sight {
	s := sight{files: w.d.Files(), safe: w.d.Safe(), off: w.d.Off(), strokes: w.d.Strokes(), reads: w.d.Reads()}
	s.names, s.changes = w.d.Pending()
	s.bytes, s.count = w.d.Held()
	s.marked = [...]bool{w.values.Marked(), w.procs.Marked()}
	s.now, s.held = w.now(), w.held()
	s.values, s.procs = w.values.Len(), w.procs.Len()
	s.slotsOfKeys = slots(w.values, keysOf(s.now, s.held))
	s.slotsOfNames = slots(w.procs, namesOf(s.now, s.held))
	return s
}

func keysOf(all ...state) []string {
	var out []string
	for _, s := range all {
		for _, x := range s.entries {
			out = append(out, x.Key)
		}
	}
	return out
}

func namesOf(all ...state) []string {
	var out []string
	for _, s := range all {
		for _, p := range s.procs {
			out = append(out, p.Name)
		}
	}
	return out
}

// slots is what a store keeps of these keys, in words.
func slots[V any](s *zigzag.Store[V], keys []string) string {
	var w strings.Builder
	for _, k := range keys {
		x, is := s.Slot(k)
		fmt.Fprintf(&w, "%q %v %v; ", k, is, x)
	}
	return w.String()
}

// now is what the stores have.
func (w world) now() state {
	var s state
	for _, p := range w.procs.Range("", "") {
		s.procs = append(s.procs, p)
	}
	for k, v := range w.values.Range("", "") {
		s.entries = append(s.entries, api.Entry{Key: k, Value: v})
	}
	return s
}

// held is what the stores hold.
func (w world) held() state {
	var s state
	for _, p := range w.procs.Snapshot("") {
		s.procs = append(s.procs, p)
	}
	for k, v := range w.values.Snapshot("") {
		s.entries = append(s.entries, api.Entry{Key: k, Value: v})
	}
	return s
}

// sameSight holds what a world shows against what it should.
func sameSight(t testing.TB, why string, got, want sight) {
	t.Helper()
	if !reflect.DeepEqual(got, want) {
		t.Errorf("%s: there is %s, not %s", why, inWords(got), inWords(want))
	}
}

// inWords is a sight in few words.
func inWords(s sight) string {
	var w strings.Builder
	for i, files := range [][]api.FileBytes{s.files, s.safe} {
		w.WriteString([]string{"files", "; safe"}[i])
		for _, f := range files {
			fmt.Fprintf(&w, " %s %.60x (%d)", f.Name, f.Data, len(f.Data))
		}
	}
	fmt.Fprintf(&w, "; pending %d, %v; held %d, %d; off %v; %d strokes, %d readings; marked %v; now %.300v; held %.300v", s.names, s.changes, s.bytes, s.count, s.off, s.strokes, s.reads, s.marked, s.now, s.held)
	return w.String()
}

// fault is what can come of a stroke, and the error it has.
type fault struct {
	kind int
	e    api.Errno
}

func faults() []fault {
	return []fault{{api.FaultOff, api.ErrOff}, {api.FaultIO, api.ErrIO}, {api.FaultFull, api.ErrFull}}
}

func failsAt(k, kind int) api.Plan {
	return api.Plan{Strokes: []api.Fault{{At: k, Kind: kind}}}
}
