package audit_test

import (
	"bytes"
	"runtime"
	"slices"
	"strings"
	"testing"
	"unsafe"
	"weak"

	"treadle/api"
	"treadle/audit"
)

// overwrite lays other bytes over a text.
func overwrite(s string) {
	row := unsafe.Slice(unsafe.StringData(s), len(s))
	for i := range row {
		row[i] = '!'
	}
}

// own is a text in memory of its own, that may be written over.
func own(s string) string { return strings.Clone(s) }

// spare is a copy of a list with spare room behind its end, which has something in it.
func spare[V any](l []V, in V) []V {
	out := append(slices.Clone(l), slices.Repeat([]V{in}, 9)...)
	return out[:len(l)]
}

// roomy is these files in memory of their own, names and bytes, with spare room behind each list's end.
func (x dir) roomy() dir {
	out := make(dir, len(x))
	for i, f := range x {
		out[i] = file(own(f.Name), spare(f.Data, 0x77))
	}
	return spare(out, file("behind the end", []byte{0x78}))
}

// unchanged tells whether roomy files are those that they were made of, the spare room too.
func (x dir) unchanged(was dir) bool {
	for i, f := range x {
		rest := f.Data[len(f.Data):cap(f.Data)]
		if f.Name != was[i].Name || !bytes.Equal(f.Data, was[i].Data) || !bytes.HasPrefix(rest, bytes.Repeat([]byte{0x77}, 9)) {
			return false
		}
	}
	for _, f := range x[len(x) : len(x)+9] {
		if f.Name != "behind the end" || !bytes.Equal(f.Data, []byte{0x78}) {
			return false
		}
	}
	return len(x) == len(was)
}

// kept is a Report in memory of its own, the texts too.
func kept(r api.Report) api.Report {
	r = tidy(r)
	for _, l := range [][]string{r.Needed, r.Left, r.Others} {
		for i := range l {
			l[i] = own(l[i])
		}
	}
	return r
}

// spoil lays other things over all lists of a Report, the spare room and the texts too.
func spoil(r api.Report) {
	all := r.Segments[:cap(r.Segments)]
	for i := range all {
		all[i] = api.Segment{First: -1, Size: -1}
	}
	for _, l := range [][]string{r.Needed, r.Left, r.Others} {
		for i := range l {
			overwrite(l[i])
		}
		for i := range l[:cap(l)] {
			l[:cap(l)][i] = "spoilt"
		}
	}
}

// rich is directories with something in each list, sound and damaged; one with a name twice.
func rich() []dir {
	more := []api.FileBytes{file("x", []byte("xx")), file("", nil), file("other", rows(1, 1)), file("manifest.new", nil), ck(1, 1), file("log-1", []byte{1})}
	out := []dir{{}, dir(more)}
	for _, x := range []dir{two(), two().more(logName(8), 1, 2, 3), two().without(ckptName(9)), two().without("manifest"), two().cut(logName(7), 1), {file("manifest", nil)}, {seg(2, 1)}, two().with(file(ckptName(9), nil), file(ckptName(5), nil))} {
		out = append(out, slices.Concat(dir(more[:3]), x, dir(more[3:])))
	}
	return append(out, slices.Concat(two(), two()))
}

// P20.4, W6: what is handed in is not changed, the spare room behind each list's end neither.
func TestHandedInUnchanged(t *testing.T) {
	for i, x := range rich() {
		y := x.roomy()
		want := audit.Look(x)
		for range 2 {
			if got := audit.Look(y); !same(got, want) || !y.unchanged(x) {
				t.Errorf("P20.4: directory %d has changed: %+v, %+v", i, got, want)
			}
		}
	}
}

// P20.4, W6: files, their names and their bytes, that are written over behind the call: the Report is what it was.
func TestWrittenOverBehind(t *testing.T) {
	for i, x := range rich() {
		y := x.roomy()
		got := audit.Look(y)
		was := kept(got)
		for k := range y {
			overwrite(y[k].Name)
			for j := range y[k].Data {
				y[k].Data[j] = 0xee
			}
		}
		for k := range y[:cap(y)] {
			y[:cap(y)][k] = file("written over", []byte{0xef})
		}
		if !same(got, was) {
			t.Errorf("P20.4: directory %d: %+v, not %+v", i, got, was)
		}
		if fresh := audit.Look(x); !same(fresh, was) {
			t.Errorf("W2: directory %d: %+v, not %+v", i, fresh, was)
		}
	}
}

// P20.4, W6: a Report's lists and texts that are written over: the files, another Report ahead of it and one behind it are what they were.
func TestReportWrittenOver(t *testing.T) {
	for i, x := range rich() {
		y := x.roomy()
		ahead := audit.Look(y)
		was := kept(ahead)
		one := audit.Look(y)
		spoil(one)
		behind := audit.Look(y)
		if !same(ahead, was) || !same(behind, was) || !y.unchanged(x) {
			t.Errorf("W6: directory %d: %+v and %+v, not %+v", i, ahead, behind, was)
		}
		spoil(ahead)
		if !same(behind, was) || !y.unchanged(x) {
			t.Errorf("W6: directory %d: %+v, not %+v", i, behind, was)
		}
	}
}

// W6: no two lists of one Report share memory, the spare room neither: each is written over in turn.
func TestListsApart(t *testing.T) {
	for i, x := range rich() {
		for k := range 3 {
			got := audit.Look(x)
			was := kept(got)
			lists := []*[]string{&got.Needed, &got.Left, &got.Others}
			spoil(api.Report{Needed: *lists[k]})
			*lists[k] = [][]string{was.Needed, was.Left, was.Others}[k]
			if !same(got, was) {
				t.Errorf("W6: directory %d, list %d: %+v, not %+v", i, k, got, was)
			}
		}
	}
}

// P20.4: nothing of what is handed in is kept, in the Report or elsewhere.
func TestLetGo(t *testing.T) {
	type held struct {
		reports []api.Report
		data    []weak.Pointer[byte]
	}
	told := make(chan held)
	// A goroutine of its own, so that no stack of this one holds them any more.
	go func() {
		var h held
		for _, x := range rich() {
			y := dir{}
			for _, f := range x {
				// Names and bytes in one piece of memory that is large enough to stand alone.
				row := make([]byte, 4096+len(f.Name)+len(f.Data))
				copy(row, f.Name)
				copy(row[len(f.Name):], f.Data)
				y = append(y, file(unsafe.String(&row[0], len(f.Name)), row[len(f.Name):len(f.Name)+len(f.Data)]))
				h.data = append(h.data, weak.Make(&row[0]))
			}
			h.reports = append(h.reports, audit.Look(y))
		}
		told <- h
	}()
	h := <-told
	for range 10 {
		runtime.GC()
	}
	for i, d := range h.data {
		if d.Value() != nil {
			t.Errorf("P20.4: the file %d is kept", i)
		}
	}
	runtime.KeepAlive(h.reports)
}

// W2, W9: several goroutines look at one directory at one time, and tell the same.
func TestTogether(t *testing.T) {
	for i, x := range rich() {
		want := audit.Look(x)
		failed := make(chan bool)
		for range 8 {
			go func() {
				bad := false
				for range 20 {
					bad = bad || !same(audit.Look(x), want)
				}
				failed <- bad
			}()
		}
		for range 8 {
			if <-failed {
				t.Errorf("W2: directory %d: an answer hangs on another goroutine", i)
			}
		}
	}
}
