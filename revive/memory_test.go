package revive_test

import (
	"runtime"
	"slices"
	"testing"
	"time"
	"unsafe"
	"weak"

	"treadle/api"
	"treadle/disk"
	"treadle/revive"
)

// overwrite lays other bytes over a text; texts of one byte may be the language's own.
func overwrite(s string) {
	if len(s) < 2 {
		return
	}
	row := unsafe.Slice(unsafe.StringData(s), len(s))
	for i := range row {
		row[i] = '!'
	}
}

// spoilCode lays other things over a procedure's instructions, and over the spare room behind them.
func spoilCode(p api.Proc) {
	code := p.Code[:cap(p.Code)]
	for i := range code {
		overwrite(code[i].Value.Text)
		code[i] = api.Instr{Op: 99, A: 99, N: 99, Value: text("spoilt")}
	}
}

// spoil lays other things over all that a State has.
func spoil(s *revive.State) {
	all := s.Segments[:cap(s.Segments)]
	for i := range all {
		all[i] = api.Segment{First: -1, Size: -1}
	}
	for name, p := range s.Procs.Range("", "") {
		spoilCode(p)
		overwrite(p.Name)
		overwrite(name)
	}
	for key, v := range s.Values.Range("", "") {
		overwrite(v.Text)
		overwrite(key)
	}
	for _, key := range []string{"made", "key 0", "key 1", "checkpoint", "text"} {
		s.Values.Put(key, text("spoilt"))
		s.Values.Delete("key 2")
	}
	s.Procs.Put("fold", api.Proc{Name: "spoilt"})
	s.Values.Mark()
	s.Procs.Mark()
	s.Next, s.Manifest, s.Has, s.Opened = -1, of(-1, -1, -1, -1, -1), !s.Has, api.Opened{Base: -1}
}

// rich is scenes with texts in the checkpoint, in the procedures and in the log's arguments.
func rich() []dir {
	s := stamped(12, 4)
	s.values["text"] = text("a text of the checkpoint")
	s.values["more"] = text("another text of the checkpoint")
	log := rows(13, history, 1, 5, 2)
	put := define("proc put 2", "arg r0 0", "arg r1 1", "put r0 r1")
	log = append(log, rowOf(21, put, call("put", text("from the log"), text("a text of the log")), call("put", text("once more"), text("a text of the log")))...)
	x := dir{man(of(1, 4, 12, 0, 0)), file(ckptName(4), image(4, 12, s)), file(logName(13), log), seg(1, 12)}
	return []dir{x, x.more(logName(13), 1, 2, 3), {seg(1, 12, 20), seg(33, 9)}, {seg(1, 3), seg(4)}, {}}
}

// W6: two openings of one disk, one of them spoilt: the other one is unchanged, and so is the disk, and what a third one says.
func TestApart(t *testing.T) {
	for _, x := range rich() {
		d := x.disk(t)
		if _, e := revive.Open(d, 1); e != api.OK {
			t.Fatal(e)
		}
		one, e := revive.Open(d, 3)
		two, e2 := revive.Open(d, 3)
		if e != api.OK || e2 != api.OK {
			t.Fatal(e, e2)
		}
		was := shownOf(two)
		was.segments = slices.Clone(was.segments)
		ahead := sightOf(d)
		if !shownOf(one).same(was) {
			t.Errorf("P17.3: %+v, not %+v", shownOf(one), was)
		}
		spoil(one)
		sameSight(t, "W6", sightOf(d), ahead)
		if !shownOf(two).same(was) || two.Values.Marked() || two.Procs.Marked() {
			t.Errorf("W6: %+v, not %+v", shownOf(two), was)
		}
		three, e := revive.Open(d, 3)
		if e != api.OK || !shownOf(three).same(was) {
			t.Errorf("W6: %+v, %v, not %+v", three, e, was)
		}
	}
}

// W6: what is written on the disk later does not change a State, nor does a crash.
func TestDiskWrittenOver(t *testing.T) {
	for _, x := range rich() {
		d := x.disk(t)
		s, e := revive.Open(d, 1)
		if e != api.OK {
			t.Fatal(e)
		}
		was := shownOf(s)
		was.segments = slices.Clone(was.segments)
		for _, f := range d.Files() {
			d.Truncate(f.Name, 0)
			d.Append(f.Name, make([]byte, len(f.Data)))
			d.Sync(f.Name)
			d.Remove(f.Name)
		}
		d.SyncNames()
		d.Crash(api.Picks{})
		if !shownOf(s).same(was) {
			t.Errorf("W6: %+v, not %+v", shownOf(s), was)
		}
	}
}

// W6: no two lists of one State share memory, spare room neither: each procedure's instructions are spoilt in turn.
func TestListsApart(t *testing.T) {
	for _, x := range rich() {
		s, e := revive.Open(x.disk(t), 1)
		if e != api.OK {
			t.Fatal(e)
		}
		is := stateOf(s.Values, s.Procs)
		for _, name := range sortedKeys(is.procs) {
			code := is.procs[name].Code
			for i := range code[:cap(code)] {
				code[:cap(code)][i] = api.Instr{Op: 77}
			}
			delete(is.procs, name)
			for other, p := range is.procs {
				if slices.ContainsFunc(p.Code, func(i api.Instr) bool { return i.Op == 77 }) {
					t.Errorf("W6: %s and %s share memory", name, other)
				}
			}
		}
	}
}

// A State keeps nothing of the disk.
func TestLetGo(t *testing.T) {
	type held struct {
		states []*revive.State
		disks  []weak.Pointer[disk.Disk]
	}
	told := make(chan held)
	// A goroutine of its own, so that no stack of this one holds them any more.
	go func() {
		var h held
		for _, x := range rich() {
			d := x.disk(t)
			s, _ := revive.Open(d, 2)
			h.states, h.disks = append(h.states, s), append(h.disks, weak.Make(d))
		}
		told <- h
	}()
	h := <-told
	for range 10 {
		runtime.GC()
	}
	for i, d := range h.disks {
		if d.Value() != nil {
			t.Errorf("W6: the State %d keeps its disk", i)
		}
	}
	runtime.KeepAlive(h.states)
}

// W2: all goroutines have ended when an opening answers, whatever it answers.
func TestNoGoroutineLeft(t *testing.T) {
	ahead := runtime.NumGoroutine()
	for _, x := range append(rich(), dir{seg(1, 60), seg(62, 1)}, marked(5).with(seg(4, 60))) {
		for _, workers := range anyWorkers() {
			revive.Open(x.disk(t), workers)
		}
	}
	for i := 0; runtime.NumGoroutine() > ahead && i < 100; i++ {
		time.Sleep(time.Millisecond) // one that has told its end is counted a moment longer
	}
	if n := runtime.NumGoroutine(); n > ahead {
		t.Errorf("W2: %d goroutines, and %d ahead of it", n, ahead)
	}
}

// W9: several goroutines, each with a disk of its own, at one time.
func TestTogether(t *testing.T) {
	for _, x := range rich() {
		s, e := revive.Open(x.disk(t), 1)
		if e != api.OK {
			t.Fatal(e)
		}
		was := shownOf(s)
		failed := make(chan bool)
		for i := range 8 {
			go func() {
				bad := false
				for range 20 {
					s, e := revive.Open(x.disk(t), i)
					bad = bad || e != api.OK || !shownOf(s).same(was)
				}
				failed <- bad
			}()
		}
		for range 8 {
			if <-failed {
				t.Errorf("W9: an answer hangs on another goroutine")
			}
		}
	}
}
