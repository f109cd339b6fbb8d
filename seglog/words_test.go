package seglog_test

import (
	"fmt"
	"reflect"
	"slices"
	"strings"
	"testing"

	"treadle/api"
	"treadle/batch"
	"treadle/disk"
	"treadle/seglog"
)

var nothing = api.Value{}

func num(n int64) api.Value { return api.Value{Kind: api.KindInt, Int: n} }

func text(s string) api.Value { return api.Value{Kind: api.KindText, Text: s} }

// long is a text of n bytes that could stand as a name.
func long(n int) string { return strings.Repeat("x", n) }

func call(name string, args ...api.Value) api.Txn {
	return api.Txn{Kind: api.TxnCall, Name: name, Args: args}
}

func define(p api.Proc) api.Txn { return api.Txn{Kind: api.TxnDefine, Proc: p} }

func from(first int, txns ...api.Txn) api.Batch { return api.Batch{First: first, Txns: txns} }

func put2() api.Proc {
	return api.Proc{Name: "put2", Args: 2, Code: []api.Instr{
		{Op: api.OpArg, A: 0, N: 0},
		{Op: api.OpArg, A: 1, N: 1},
		{Op: api.OpPut, A: 0, B: 1},
		{Op: api.OpStop},
	}}
}

// calls is n calls, others for each seed.
func calls(n, seed int) []api.Txn {
	var out []api.Txn
	for i := range n {
		out = append(out, call("p", num(int64(100*seed+i))))
	}
	return out
}

// sized is calls whose batch of First 1 to 127 has so many bytes, 63000 to 67000.
func sized(t *testing.T, n int) []api.Txn {
	t.Helper()
	size := func(txns ...api.Txn) int {
		sum := 2
		for _, x := range txns {
			sum += 3 + len(x.Name)
			for _, v := range x.Args {
				row := 2 + len(v.Text)
				if len(v.Text) > 127 {
					row++
				}
				sum += row + 1
				if row > 127 {
					sum++
				}
			}
		}
		return sum
	}
	full := call("p", slices.Repeat([]api.Value{text(long(256))}, 16)...)
	all := slices.Repeat([]api.Txn{full}, 15)
	rest := call("p")
	for size(append(slices.Clip(all), rest)...)+300 < n {
		rest.Args = append(rest.Args, text(long(256)))
	}
	for i := range 257 {
		for k := range 120 {
			whole := append(slices.Clip(all), rest, call("p", text(long(i)), text(long(k))))
			if size(whole...) == n {
				return whole
			}
		}
	}
	t.Fatalf("no batch of %d bytes is made", n)
	return nil
}

// sameTxn tells whether two transactions are the same; a list without an element is as good as none.
func sameTxn(a, b api.Txn) bool {
	return a.Kind == b.Kind && a.Name == b.Name && slices.Equal(a.Args, b.Args) &&
		a.Proc.Name == b.Proc.Name && a.Proc.Args == b.Proc.Args && slices.Equal(a.Proc.Code, b.Proc.Code)
}

func same(a, b api.Batch) bool {
	return a.First == b.First && slices.EqualFunc(a.Txns, b.Txns, sameTxn)
}

// step is what an iterator hands on at one step.
type step struct {
	b  api.Batch
	at int
}

func sameStep(a, b step) bool { return a.at == b.at && same(a.b, b.b) }

// told is steps in few words.
func told(all []step) string {
	var s strings.Builder
	for _, x := range all[:min(len(all), 8)] {
		fmt.Fprintf(&s, " %d+%d>%d", x.b.First, len(x.b.Txns), x.at)
	}
	return fmt.Sprintf("%d steps:%s", len(all), s.String())
}

// scanned is all that Scan goes through.
func scanned(data []byte, first int) []step {
	var out []step
	for b, at := range seglog.Scan(data, first) {
		out = append(out, step{b, at})
	}
	return out
}

// newDisk is a disk without a file.
func newDisk(t testing.TB, room, files int) *disk.Disk {
	t.Helper()
	d, e := disk.New(room, files)
	if e != api.OK {
		t.Fatal(e)
	}
	return d
}

// wide is a disk with all the room there may be.
func wide(t testing.TB) *disk.Disk {
	t.Helper()
	return newDisk(t, api.MaxRoom, api.MaxFiles)
}

// started is a log that Start takes.
func started(t testing.TB, d *disk.Disk, limit int, segments []api.Segment, next int) *seglog.Log {
	t.Helper()
	l, e := seglog.Start(d, limit, segments, next)
	if e != api.OK || l == nil {
		t.Fatalf("P13.3: Start(limit %d, %v, next %d): %v", limit, segments, next, e)
	}
	return l
}

// taken hands a batch to a log that takes it.
func taken(t testing.TB, l *seglog.Log, txns ...api.Txn) int {
	t.Helper()
	was := l.Next()
	first, e := l.Append(txns)
	if e != api.OK || first != was || l.Next() != was+len(txns) {
		t.Errorf("P13.4: Append of %d at %d: %d, %v; next %d", len(txns), was, first, e, l.Next())
	}
	return first
}

// flushed asks for a Flush that goes through.
func flushed(t testing.TB, l *seglog.Log) {
	t.Helper()
	if e := l.Flush(); e != api.OK || l.Broken() || l.Durable() != l.Next()-1 {
		t.Errorf("P13.5: %v, broken %v, durable %d, next %d", e, l.Broken(), l.Durable(), l.Next())
	}
}

// tells holds what a log tells against what it should.
func tells(t testing.TB, l *seglog.Log, next, durable int, broken bool, segments ...api.Segment) {
	t.Helper()
	if l.Next() != next || l.Durable() != durable || l.Broken() != broken || !slices.Equal(l.Segments(), segments) {
		t.Errorf("P13.7: next %d, durable %d, broken %v, segments %v, not %d, %d, %v, %v",
			l.Next(), l.Durable(), l.Broken(), l.Segments(), next, durable, broken, segments)
	}
}

// sight is all that a disk shows of itself.
type sight struct {
	files, safe  []api.FileBytes
	names        int
	changes      []int
	bytes, count int
	off          bool
	strokes      int
	reads        int
}

func sightOf(d *disk.Disk) sight {
	s := sight{files: d.Files(), safe: d.Safe(), off: d.Off(), strokes: d.Strokes(), reads: d.Reads()}
	s.names, s.changes = d.Pending()
	s.bytes, s.count = d.Held()
	return s
}

// sameDisk holds two disks against each other.
func sameDisk(t testing.TB, why string, d, want *disk.Disk) {
	t.Helper()
	if a, b := sightOf(d), sightOf(want); !reflect.DeepEqual(a, b) {
		t.Errorf("%s: the disk has %s, not %s", why, inWords(a), inWords(b))
	}
}

// inWords is a sight in few words.
func inWords(s sight) string {
	var w strings.Builder
	for i, files := range [][]api.FileBytes{s.files, s.safe} {
		w.WriteString([]string{"files", "; safe"}[i])
		for _, f := range files {
			fmt.Fprintf(&w, " %s %d bytes %x", f.Name, len(f.Data), f.Data[:min(len(f.Data), 8)])
		}
	}
	fmt.Fprintf(&w, "; pending %d, %v; held %d, %d; off %v; %d strokes, %d readings", s.names, s.changes, s.bytes, s.count, s.off, s.strokes, s.reads)
	return w.String()
}

// fileOf is the bytes of a file among others, and whether it is there.
func fileOf(files []api.FileBytes, name string) ([]byte, bool) {
	for _, f := range files {
		if f.Name == name {
			return f.Data, true
		}
	}
	return nil, false
}

// between tells in words which stroke leads from one sight of a disk to the next. The files' names rise as they were made; those that are removed, but live, were made first.
func between(a, b sight) string {
	switch {
	case b.names < a.names:
		return "names"
	case len(b.files) > len(a.files):
		return "create " + b.files[len(b.files)-1].Name
	case len(b.files) < len(a.files):
		return "remove " + a.files[0].Name
	}
	for i, f := range b.files {
		gone := len(b.changes) - len(b.files)
		switch was, is := a.changes[gone+i], b.changes[gone+i]; {
		case is > was:
			return fmt.Sprintf("append %s %d", f.Name, len(f.Data)-len(a.files[i].Data))
		case is < was:
			return "sync " + f.Name
		}
	}
	return "nothing"
}

// strokesOf is the strokes of what act does, in words: the power goes off at each of them in turn, and what is there is looked at.
func strokesOf(t *testing.T, build func() (*disk.Disk, *seglog.Log), act func(*seglog.Log) api.Errno) []string {
	t.Helper()
	var sights []sight
	for k := 1; ; k++ {
		d, l := build()
		d.Plan(api.Plan{Strokes: []api.Fault{{At: k, Kind: api.FaultOff}}})
		e := act(l)
		sights = append(sights, sightOf(d))
		if !d.Off() {
			if e != api.OK || d.Strokes() != k-1 {
				t.Errorf("P13.5: %v with %d strokes, not %d", e, d.Strokes(), k-1)
			}
			break
		}
		if e != api.ErrOff || d.Strokes() != k {
			t.Errorf("P13.5: %v at the stroke %d; %d were counted", e, k, d.Strokes())
		}
	}
	var out []string
	for i := 1; i < len(sights); i++ {
		out = append(out, between(sights[i-1], sights[i]))
	}
	return out
}

// deeds holds strokes in words against what is wanted; in these a file's name is its number alone.
func deeds(t *testing.T, got []string, want ...string) {
	t.Helper()
	for i, w := range want {
		f := strings.Fields(w)
		if len(f) > 1 {
			f[1] = "log-" + strings.Repeat("0", 12-len(f[1])) + f[1]
		}
		want[i] = strings.Join(f, " ")
	}
	if !slices.Equal(got, want) {
		t.Errorf("P13.5, P13.6: the strokes are %q, not %q", got, want)
	}
}

// bodyOf is the bytes of a batch.
func bodyOf(b api.Batch) []byte {
	body, e := batch.Encode(b)
	if e != api.OK {
		panic(e)
	}
	return body
}

// faults is what can come of a stroke.
func faults() []struct {
	kind int
	e    api.Errno
} {
	return []struct {
		kind int
		e    api.Errno
	}{{api.FaultOff, api.ErrOff}, {api.FaultIO, api.ErrIO}, {api.FaultFull, api.ErrFull}}
}

func failsAt(k, kind int) api.Plan {
	return api.Plan{Strokes: []api.Fault{{At: k, Kind: kind}}}
}
