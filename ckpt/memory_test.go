package ckpt_test

import (
	"bytes"
	"fmt"
	"runtime"
	"slices"
	"testing"
	"unsafe"
	"weak"

	"treadle/api"
	"treadle/ckpt"
	"treadle/disk"
	"treadle/zigzag"
)

// overwrite lays other bytes over a text.
func overwrite(s string) {
	row := unsafe.Slice(unsafe.StringData(s), len(s))
	for i := range row {
		row[i] = '!'
	}
}

func apart(s string) string { return string([]byte(s)) }

// roomy is a state whose texts have memory of their own, and whose lists have spare room with something in it.
func roomy() state {
	set := func(s string) api.Instr { return api.Instr{Op: api.OpSet, Value: text(apart(s))} }
	code := func() []api.Instr {
		return []api.Instr{set("ab"), set("a longer text"), {Op: api.OpStop}, set("spare"), set("more"), {Op: 99}}[:3]
	}
	return state{
		[]api.Proc{{Name: apart("bare")}, {Name: apart("first"), Args: 2, Code: code()}, {Name: apart("other"), Args: 2, Code: code()}},
		[]api.Entry{
			{Key: apart("ab"), Value: text(apart("ab"))},
			{Key: apart("key 1"), Value: text(apart("a longer text"))},
			{Key: apart("key 2"), Value: text(apart("a longer text"))},
		},
	}
}

// inDepth is a state in words, with the spare room of its lists.
func inDepth(s state) string {
	procs := slices.Clone(s.procs)
	for i := range procs {
		procs[i].Code = procs[i].Code[:cap(procs[i].Code)]
	}
	return fmt.Sprintf("%#v %#v", procs, s.entries)
}

// P16.8, W6: what the stores have is as it was, the spare room too, and so are the stores.
func TestUnchanged(t *testing.T) {
	for _, n := range []int{1, 2, 128} {
		for k := range 9 {
			s := roomy()
			w := newWorld(t, s)
			was := of(3, 4, 5, 2, 1)
			j := w.begin(t, was, true, 7, 128)
			if was != of(3, 4, 5, 2, 1) {
				t.Errorf("P16.8: the manifest that was handed in is %v", was)
			}
			w.d.Plan(failsAt(k, api.FaultIO))
			var e api.Errno
			for is := false; !is && e == api.OK; {
				_, is, e = j.Step(n)
			}
			if inDepth(s) != inDepth(roomy()) || inDepth(w.now()) != inDepth(roomy()) {
				t.Errorf("P16.8: what was handed in is %s", inDepth(w.now()))
			}
			if w.values.Len() != 3 || w.procs.Len() != 3 {
				t.Errorf("P16.8: %d values, %d procedures", w.values.Len(), w.procs.Len())
			}
		}
	}
}

// P16.8, W6: what was handed in is written over: neither the file nor the manifest changes.
func TestWrittenOver(t *testing.T) {
	s := roomy()
	w := newWorld(t, s)
	was := of(3, 4, 5, 2, 1)
	j := w.begin(t, was, true, 7, 1)
	was.Number, was.File, was.Mark = 99, 99, 99
	// What has been written is of no account any more, while the Job goes on too.
	steps(t, j, 1, none, false, api.OK)
	steps(t, j, 1, none, false, api.OK)
	for i := range s.procs[1].Code[:cap(s.procs[1].Code)] {
		overwrite(s.procs[1].Code[:cap(s.procs[1].Code)][i].Value.Text)
		s.procs[1].Code[:cap(s.procs[1].Code)][i] = api.Instr{Op: 77}
	}
	steps(t, j, 1, none, false, api.OK)
	steps(t, j, 1, none, false, api.OK)
	overwrite(s.entries[0].Value.Text)
	steps(t, j, 1, none, false, api.OK)
	steps(t, j, 1, of(4, 5, 7, 4, 5), true, api.OK)
	for _, p := range s.procs {
		overwrite(p.Name)
		for i := range p.Code {
			overwrite(p.Code[i].Value.Text)
			p.Code[i] = api.Instr{Op: 88}
		}
	}
	for _, x := range s.entries {
		overwrite(x.Key)
		overwrite(x.Value.Text)
	}
	w.holds(t, slowName(5), fileOf(t, 5, 7, 1, roomy()))
	w.holds(t, "manifest", slowManifest(of(4, 5, 7, 4, 5)))
}

// W6: a name that is answered is its owner's; one that is asked for is not kept.
func TestNamesApart(t *testing.T) {
	one, two := ckpt.Name(10), ckpt.Name(10)
	overwrite(one)
	if two != "ckpt-00000000000a" || ckpt.Name(10) != "ckpt-00000000000a" {
		t.Errorf("W6: %q, %q", two, ckpt.Name(10))
	}
	asked := apart("ckpt-00000000000a")
	n, is := ckpt.Number(asked)
	if asked != "ckpt-00000000000a" || n != 10 || !is {
		t.Errorf("W6: Number(%q): %d, %v", asked, n, is)
	}
	overwrite(asked)
	if n, is := ckpt.Number("ckpt-00000000000a"); n != 10 || !is {
		t.Errorf("W6: %d, %v", n, is)
	}
}

// W2: two Jobs at one time, on worlds of their own, or with one disk and stores of their own, hang on nothing of each other.
func TestTwoJobs(t *testing.T) {
	d := newDisk(t, 100000, 20)
	a, b := worldOn(d, many(2, 3)), worldOn(d, many(3, 1))
	ja := a.begin(t, none, false, 7, 2)
	jb := b.begin(t, none, false, 9, 2)
	for range 2 {
		steps(t, ja, 1, none, false, api.OK)
		steps(t, jb, 1, none, false, api.OK)
	}
	steps(t, ja, 2, none, false, api.OK)
	steps(t, jb, 2, of(1, 2, 9, 0, 0), true, api.OK)
	steps(t, ja, 2, of(1, 1, 7, 0, 0), true, api.OK)
	saysThen(t, a, 1, 7, many(2, 3))
	saysThen(t, b, 2, 9, many(3, 1))
}

// P16.8, LANGUAGE 8: a Job that is at its end keeps neither the disk nor the stores; nor does a call that was refused.
func TestLetGo(t *testing.T) {
	ends := []func(d *disk.Disk, j *ckpt.Job){
		func(d *disk.Disk, j *ckpt.Job) { j.Step(128) },
		func(d *disk.Disk, j *ckpt.Job) { d.Plan(failsAt(1, api.FaultIO)); j.Step(128) },
		func(d *disk.Disk, j *ckpt.Job) { d.Plan(failsAt(2, api.FaultOff)); j.Step(128) },
		func(d *disk.Disk, j *ckpt.Job) { d.Plan(failsAt(3, api.FaultFull)); j.Step(128) },
		func(d *disk.Disk, j *ckpt.Job) { d.Plan(failsAt(7, api.FaultIO)); j.Step(128) },
		func(d *disk.Disk, j *ckpt.Job) { j.Step(2); j.Drop() },
		func(d *disk.Disk, j *ckpt.Job) { j.Drop() },
	}
	type held struct {
		jobs   []*ckpt.Job
		disks  []weak.Pointer[disk.Disk]
		values []weak.Pointer[zigzag.Store[api.Value]]
		procs  []weak.Pointer[zigzag.Store[api.Proc]]
	}
	told := make(chan held)
	// A goroutine of its own, so that no stack of this one holds them any more.
	go func() {
		var h held
		for _, end := range ends {
			w := newWorld(t, many(3, 3))
			h.disks, h.values, h.procs = append(h.disks, weak.Make(w.d)), append(h.values, weak.Make(w.values)), append(h.procs, weak.Make(w.procs))
			j, _ := ckpt.Begin(w.d, w.values, w.procs, none, false, 7, 128)
			ckpt.Begin(w.d, w.values, w.procs, none, false, 7, 128)
			end(w.d, j)
			ckpt.Collect(w.d, none, false)
			h.jobs = append(h.jobs, j)
		}
		told <- h
	}()
	h := <-told
	for range 10 {
		runtime.GC()
	}
	for i := range h.jobs {
		if h.disks[i].Value() != nil || h.values[i].Value() != nil || h.procs[i].Value() != nil {
			t.Errorf("P16.8: the Job %d keeps its disk: %v, its stores: %v, %v", i, h.disks[i].Value() != nil, h.values[i].Value() != nil, h.procs[i].Value() != nil)
		}
	}
	runtime.KeepAlive(h.jobs)
}

// W9: several goroutines, each with a world of its own, at one time; lists of procedures that all of them read.
func TestTogether(t *testing.T) {
	s := roomy()
	want := fileOf(t, 1, 7, 2, s)
	failed := make(chan bool)
	for range 8 {
		go func() {
			bad := false
			for range 30 {
				d, _ := disk.New(10000, 5)
				w := worldOn(d, s)
				j, e := ckpt.Begin(w.d, w.values, w.procs, none, false, 7, 2)
				bad = bad || e != api.OK
				for is := false; !is && !bad; {
					_, is, e = j.Step(2)
					bad = e != api.OK
				}
				b, _ := bytesOf(d.Files(), slowName(1))
				bad = bad || !bytes.Equal(b, want)
			}
			failed <- bad
		}()
	}
	for range 8 {
		if <-failed {
			t.Errorf("W9: an answer hangs on another goroutine")
		}
	}
}
