package manifest_test

import (
	"bytes"
	"encoding/hex"
	"fmt"
	"math"
	"reflect"
	"slices"
	"strings"
	"testing"

	"treadle/api"
	"treadle/disk"
	"treadle/manifest"
)

// most is the greatest number there may be, written out.
const most = 281474976710655

// example is the M of the chapter's examples.
func example() api.Manifest {
	return api.Manifest{Number: 2, File: 5, Mark: 300, Prev: 3, PrevMark: 128}
}

// of is the manifest of five numbers.
func of(n [5]int) api.Manifest {
	return api.Manifest{Number: n[0], File: n[1], Mark: n[2], Prev: n[3], PrevMark: n[4]}
}

func unhex(s string) []byte {
	b, err := hex.DecodeString(strings.ReplaceAll(s, " ", ""))
	if err != nil {
		panic(err)
	}
	return b
}

// edges is numbers at which something changes: limits, lengths of rows, wrap-round.
func edges() []int {
	return []int{math.MinInt, -1, 0, 1, 2, 127, 128, most - 1, most, most + 1, math.MaxInt}
}

// takenList is manifests that may be.
func takenList() []api.Manifest {
	return []api.Manifest{
		of([5]int{1, 1, 0, 0, 0}),
		of([5]int{1, 1, 1, 0, 0}),
		of([5]int{1, 1, most, 0, 0}),
		of([5]int{most, 1, 0, 0, 0}),
		of([5]int{1, most, 0, 0, 0}),
		of([5]int{1, 2, 1, 1, 0}),
		of([5]int{1, 2, 2, 1, 1}),
		of([5]int{1, 2, most, 1, most - 1}),
		of([5]int{1, most, 1, most - 1, 0}),
		of([5]int{1, most, 5, 1, 4}),
		of([5]int{most, most, most, most - 1, most - 1}),
		of([5]int{most, most, most, 1, 0}),
		of([5]int{127, 128, 127, 127, 126}),
		of([5]int{128, 16384, 16383, 16383, 128}),
		example(),
	}
}

// refusedList is manifests that may not be: one number is just outside, or two do not fit.
func refusedList() []api.Manifest {
	return []api.Manifest{
		{},
		of([5]int{0, 5, 300, 3, 128}),
		of([5]int{-1, 5, 300, 3, 128}),
		of([5]int{most + 1, 5, 300, 3, 128}),
		of([5]int{math.MinInt, 5, 300, 3, 128}),
		of([5]int{math.MaxInt, 5, 300, 3, 128}),
		of([5]int{2, 0, 300, 0, 0}),
		of([5]int{2, 0, 300, -1, 0}),
		of([5]int{2, -1, 300, 0, 0}),
		of([5]int{2, most + 1, 300, 3, 128}),
		of([5]int{2, most + 1, 300, 0, 0}),
		of([5]int{2, math.MinInt, 300, 3, 128}),
		of([5]int{2, math.MaxInt, 300, 3, 128}),
		of([5]int{2, 5, -1, 3, 128}),
		of([5]int{2, 5, -1, 3, -2}),
		of([5]int{2, 5, -1, 0, 0}),
		of([5]int{2, 5, most + 1, 3, 128}),
		of([5]int{2, 5, most + 1, 0, 0}),
		of([5]int{2, 5, math.MinInt, 3, 128}),
		of([5]int{2, 5, math.MinInt, 3, math.MaxInt}),
		of([5]int{2, 5, math.MaxInt, 3, 128}),
		of([5]int{2, 5, 300, -1, 128}),
		of([5]int{2, 5, 300, -1, 0}),
		of([5]int{2, 5, 300, 5, 128}),
		of([5]int{2, 5, 300, 6, 128}),
		of([5]int{2, 1, 300, 1, 128}),
		of([5]int{2, most, 300, most, 128}),
		of([5]int{2, 5, 300, math.MinInt, 128}),
		of([5]int{2, 5, 300, math.MaxInt, 128}),
		of([5]int{2, 5, 300, 3, -1}),
		of([5]int{2, 5, 300, 3, 300}),
		of([5]int{2, 5, 300, 3, 301}),
		of([5]int{2, 5, 300, 3, math.MinInt}),
		of([5]int{2, 5, 300, 3, math.MaxInt}),
		of([5]int{2, 5, most, 3, most}),
		of([5]int{2, 5, 1, 3, 1}),
		of([5]int{2, 5, 0, 3, 0}), // nothing is below a Mark of 0
		of([5]int{2, 5, 0, 3, -1}),
		of([5]int{2, 5, 300, 0, 1}), // of no checkpoint there is no mark
		of([5]int{2, 5, 300, 0, 128}),
		of([5]int{2, 5, 300, 0, -1}),
		of([5]int{2, 5, 300, 0, 299}),
		of([5]int{2, 5, 0, 0, 1}),
	}
}

// encoded is the bytes of a manifest that Encode takes.
func encoded(t testing.TB, m api.Manifest) []byte {
	t.Helper()
	b, e := manifest.Encode(m)
	if e != api.OK || len(b) == 0 {
		t.Errorf("P15.2: Encode(%v): %x, %v", m, b, e)
	}
	return b
}

// refused asks for an error of Decode, and for no manifest.
func refused(t testing.TB, b []byte, want api.Errno) {
	t.Helper()
	if m, e := manifest.Decode(b); e != want || m != (api.Manifest{}) {
		t.Errorf("P15.3: Decode(%s): %v, %v, not %v", inHex(b), m, e, want)
	}
}

// agrees holds Decode against the chapter's words.
func agrees(t testing.TB, b []byte) api.Errno {
	t.Helper()
	m, e := manifest.Decode(b)
	want, err := slowDecode(b)
	if m != want || e != err {
		t.Errorf("P15.3: Decode(%s): %v, %v, not %v, %v", inHex(b), m, e, want, err)
	}
	return err
}

// inHex is bytes in few words.
func inHex(b []byte) string {
	if len(b) <= 80 {
		return fmt.Sprintf("% x", b)
	}
	return fmt.Sprintf("% x and so on, %d bytes", b[:40], len(b))
}

// newDisk is a disk with these files, safe.
func newDisk(t testing.TB, room, files int, there ...api.FileBytes) *disk.Disk {
	t.Helper()
	d, e := disk.New(room, files)
	if e != api.OK {
		t.Fatal(e)
	}
	for _, f := range there {
		done(t, d.Hand(f.Name, f.Data))
	}
	return d
}

// done ends a test at an error.
func done(t testing.TB, e api.Errno) {
	t.Helper()
	if e != api.OK {
		t.Fatal(e)
	}
}

func file(name string, data []byte) api.FileBytes { return api.FileBytes{Name: name, Data: data} }

// installs asks for what Install answers.
func installs(t testing.TB, d *disk.Disk, m api.Manifest, is bool, want api.Errno) {
	t.Helper()
	if got, e := manifest.Install(d, m); got != is || e != want {
		t.Errorf("P15.4: Install(%v): %v, %v, not %v, %v", m, got, e, is, want)
	}
}

// names asks for the names of a disk.
func names(t testing.TB, d *disk.Disk, want ...string) {
	t.Helper()
	if got, e := d.List(); e != api.OK || !slices.Equal(got, want) {
		t.Errorf("P15.4: the names are %q, %v, not %q", got, e, want)
	}
}

// bytesOf is the bytes of a file among others, and whether it is there.
func bytesOf(files []api.FileBytes, name string) ([]byte, bool) {
	for _, f := range files {
		if f.Name == name {
			return f.Data, true
		}
	}
	return nil, false
}

// says asks for the manifest that the file of Name says.
func says(t testing.TB, d *disk.Disk, want api.Manifest) {
	t.Helper()
	b, is := bytesOf(d.Files(), "manifest")
	if m, e := manifest.Decode(b); !is || e != api.OK || m != want || !bytes.Equal(b, slowEncode(want)) {
		t.Errorf("P15.4: the file of Name says %v, %v, not %v", m, e, want)
	}
}

// sight is all that a disk shows of itself.
type sight struct {
	files, safe  []api.FileBytes
	names        int
	changes      []int
	bytes, count int
	off          bool
	strokes      int
	reads        int
}

func sightOf(d *disk.Disk) sight {
	s := sight{files: d.Files(), safe: d.Safe(), off: d.Off(), strokes: d.Strokes(), reads: d.Reads()}
	s.names, s.changes = d.Pending()
	s.bytes, s.count = d.Held()
	return s
}

// sameSight holds what a disk shows against what it should.
func sameSight(t testing.TB, why string, got, want sight) {
	t.Helper()
	if !reflect.DeepEqual(got, want) {
		t.Errorf("%s: the disk has %s, not %s", why, inWords(got), inWords(want))
	}
}

// inWords is a sight in few words.
func inWords(s sight) string {
	var w strings.Builder
	for i, files := range [][]api.FileBytes{s.files, s.safe} {
		w.WriteString([]string{"files", "; safe"}[i])
		for _, f := range files {
			fmt.Fprintf(&w, " %s %s", f.Name, inHex(f.Data))
		}
	}
	fmt.Fprintf(&w, "; pending %d, %v; held %d, %d; off %v; %d strokes, %d readings", s.names, s.changes, s.bytes, s.count, s.off, s.strokes, s.reads)
	return w.String()
}

// fault is what can come of a stroke, and the error it has.
type fault struct {
	kind int
	e    api.Errno
}

func faults() []fault {
	return []fault{{api.FaultOff, api.ErrOff}, {api.FaultIO, api.ErrIO}, {api.FaultFull, api.ErrFull}}
}

func failsAt(k, kind int) api.Plan {
	return api.Plan{Strokes: []api.Fault{{At: k, Kind: kind}}}
}
