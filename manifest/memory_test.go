package manifest_test

import (
	"bytes"
	"runtime"
	"slices"
	"testing"
	"weak"

	"treadle/api"
	"treadle/disk"
	"treadle/manifest"
)

// flip changes all bytes, up to the end of their room.
func flip(b []byte) {
	b = b[:cap(b)]
	for i := range b {
		b[i] ^= 0xff
	}
}

// P15.7, W6: bytes that Encode answers, written over and added to: no other answer changes, nor what a disk has.
func TestBytesNewMemory(t *testing.T) {
	for _, m := range takenList() {
		want := slowEncode(m)
		first, second := encoded(t, m), encoded(t, m)
		d := newDisk(t, 1000, 5)
		installs(t, d, m, true, api.OK)
		_ = append(first, 1, 2, 3)
		flip(first)
		if !bytes.Equal(second, want) || !bytes.Equal(encoded(t, m), want) {
			t.Errorf("P15.7: an answer hangs on another")
		}
		flip(second)
		says(t, d, m)
		if got, e := manifest.Decode(want); got != m || e != api.OK {
			t.Errorf("P15.7: %v, %v", got, e)
		}
	}
}

// P15.7, W6: bytes that are handed to Decode are as they were, behind their end too, whether they are taken or refused; what stands behind their end is not read.
func TestDecodeKeepsNothing(t *testing.T) {
	for _, m := range append(takenList(), api.Manifest{}) {
		b := slowEncode(m)
		want, err := slowDecode(b)
		for i := range len(b) + 1 {
			room := append(slices.Clone(b[:i]), b[i:]...)
			room = append(room, "behind the end"...)
			was := slices.Clone(room)
			got, e := manifest.Decode(room[:i])
			if !bytes.Equal(room, was) {
				t.Errorf("P15.7: what was handed in is changed")
			}
			flip(room)
			if i == len(b) && (got != want || e != err) || i < len(b) && (e == api.OK || got != api.Manifest{}) {
				t.Errorf("P15.7: %d bytes of %d: %v, %v", i, len(b), got, e)
			}
			if again, e := manifest.Decode(b); again != want || e != err {
				t.Errorf("P15.7: %v, %v", again, e)
			}
		}
	}
}

// P15.7, W6: a manifest that is answered, or was handed in, is written over: nothing else changes.
func TestManifestApart(t *testing.T) {
	b := slowEncode(example())
	first, _ := manifest.Decode(b)
	second, _ := manifest.Decode(b)
	first.Number, first.PrevMark = 99, 99
	if second != example() {
		t.Errorf("P15.7: an answer hangs on another")
	}
	row := encoded(t, second)
	d := newDisk(t, 1000, 5)
	installs(t, d, second, true, api.OK)
	if second != example() {
		t.Errorf("P15.7: what was handed in is changed")
	}
	second.Number, second.Mark = 99, 9999
	if !bytes.Equal(row, b) {
		t.Errorf("P15.7: the bytes hang on what was handed in")
	}
	says(t, d, example())
	d.Crash(api.Picks{})
	says(t, d, example())
}

// P15.7, W2: a call hangs on no call ahead of it, whether that was taken or refused.
func TestNothingKept(t *testing.T) {
	a, b := newDisk(t, 1000, 5), newDisk(t, 1000, 5)
	for i, m := range takenList() {
		other := takenList()[(i+5)%len(takenList())]
		installs(t, a, m, true, api.OK)
		manifest.Encode(refusedList()[i])
		manifest.Decode(slowEncode(m)[:9])
		installs(t, b, other, true, api.OK)
		installs(t, a, refusedList()[i], false, api.ErrArg)
		says(t, a, m)
		says(t, b, other)
		if row := encoded(t, m); !bytes.Equal(row, slowEncode(m)) {
			t.Errorf("W2: Encode(%v): %x", m, row)
		}
	}
}

// P15.7: what was handed in, and what was answered, is let go as soon as its owner lets it go; a disk too.
func TestLetGo(t *testing.T) {
	type held struct {
		rows  []weak.Pointer[[200]byte]
		bytes []weak.Pointer[byte]
		disks []weak.Pointer[disk.Disk]
	}
	told := make(chan held)
	// A goroutine of its own, so that no stack of this one holds them any more.
	go func() {
		var h held
		for _, n := range []int{200, 24, 23, 9, 0} {
			p := new([200]byte)
			h.rows = append(h.rows, weak.Make(p))
			copy(p[:], slowEncode(example()))
			manifest.Decode(p[:n])
		}
		b, _ := manifest.Encode(example())
		h.bytes = append(h.bytes, weak.Make(&b[0]))
		for k := range 7 {
			d, _ := disk.New(1000, 5)
			h.disks = append(h.disks, weak.Make(d))
			d.Plan(failsAt(k, api.FaultIO))
			manifest.Install(d, example())
		}
		told <- h
	}()
	h := <-told
	for range 10 {
		runtime.GC()
	}
	for i, p := range h.rows {
		if p.Value() != nil {
			t.Errorf("P15.7: row %d is kept", i)
		}
	}
	for _, p := range h.bytes {
		if p.Value() != nil {
			t.Errorf("P15.7: the bytes that were answered are kept")
		}
	}
	for i, p := range h.disks {
		if p.Value() != nil {
			t.Errorf("P15.7: disk %d is kept", i)
		}
	}
}

// W9: several goroutines, each with a disk of its own, at one time; one row of bytes read by all of them.
func TestTogether(t *testing.T) {
	b := slowEncode(example())
	failed := make(chan bool)
	for i := range 8 {
		go func() {
			bad := false
			for k := range 100 {
				m := of([5]int{1 + i, 1 + k, k, 0, 0})
				d, _ := disk.New(1000, 5)
				is, e := manifest.Install(d, m)
				row, _ := bytesOf(d.Files(), "manifest")
				got, err := manifest.Decode(b)
				bad = bad || !is || e != api.OK || !bytes.Equal(row, slowEncode(m)) || got != example() || err != api.OK
			}
			failed <- bad
		}()
	}
	for range 8 {
		if <-failed {
			t.Errorf("W9: an answer hangs on another goroutine")
		}
	}
}
