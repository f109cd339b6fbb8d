package revive_test

import (
	"fmt"
	"slices"
	"testing"

	"treadle/api"
	"treadle/disk"
	"treadle/revive"
)

// somePicks is picks of all kinds for a disk with so many names pending, and so many files.
func somePicks(names, files int) []api.Picks {
	losts := [][]int{nil, {0}, {1}, {-1}, {0, 1, 2, 3}}
	var out []api.Picks
	for n := range names + 1 {
		out = append(out, api.Picks{Names: n})
		for _, done := range []int{0, 1, 2, -1} {
			for _, lost := range losts {
				out = append(out, api.Picks{Names: n, Files: slices.Repeat([]api.Pick{{Done: done, Lost: lost}}, files)})
			}
		}
	}
	return out
}

// picksFor is picks for what is pending on a disk.
func picksFor(d *disk.Disk) []api.Picks {
	names, files := d.Pending()
	return somePicks(names, len(files))
}

// pended is a disk of which something is pending that an opening may find so.
type pended struct {
	what  string
	build func() *disk.Disk
}

func pendeds(t testing.TB) []pended {
	var all []pended
	add := func(what string, x dir, acts ...func(d *disk.Disk) api.Errno) {
		all = append(all, pended{what, func() *disk.Disk {
			d := x.disk(t)
			for _, act := range acts {
				if e := act(d); e != api.OK {
					t.Fatal(what, e)
				}
			}
			d.Plan(api.Plan{})
			return d
		}})
	}
	create := func(name string) func(d *disk.Disk) api.Errno {
		return func(d *disk.Disk) api.Errno { return d.Create(name) }
	}
	lay := func(name string, data []byte) func(d *disk.Disk) api.Errno {
		return func(d *disk.Disk) api.Errno { return d.Append(name, data) }
	}
	cut := func(name string, size int) func(d *disk.Disk) api.Errno {
		return func(d *disk.Disk) api.Errno { return d.Truncate(name, size) }
	}
	remove := func(name string) func(d *disk.Disk) api.Errno {
		return func(d *disk.Disk) api.Errno { return d.Remove(name) }
	}
	for _, c := range scenes() {
		add(c.what, c.files)
	}
	log := dir{seg(1, 1, 1), seg(3, 1)}
	more := rows(4, history, 1, 2)
	add("the last one is not synced", log, lay(logName(3), more))
	add("the last one is not synced, and torn", log, lay(logName(3), more[:len(more)-1]))
	add("the last one came in two", log, lay(logName(3), more[:9]), lay(logName(3), more[9:]))
	add("the last one is cut off", log, cut(logName(3), 0))
	add("the last one is cut off within a frame", log, cut(logName(3), 9))
	add("the last one is written anew", log, cut(logName(3), 0), lay(logName(3), rows(3, others, 2)))
	add("a new last one", log, create(logName(4)), lay(logName(4), more))
	add("a new last one, torn", log, create(logName(4)), lay(logName(4), more[:len(more)-1]))
	add("a new last one without a byte", log, create(logName(4)))
	add("a new last one that is synced", log, create(logName(4)), lay(logName(4), more), func(d *disk.Disk) api.Errno { return d.Sync(logName(4)) })
	late := marked(3).with(log...).with(seg(4, 1))
	add("trimmed", late, remove(logName(1)), remove(logName(3)))
	add("what is not needed is not synced", late, lay(logName(1), more), cut(logName(3), 1))
	add("others are not synced", late, create(ckptName(8)), lay(ckptName(8), ck(8, 4).Data), create("manifest.new"), lay("manifest.new", []byte{1}))
	add("the manifest's name is not safe", late.with(ck(8, 4), file("manifest.new", man(of(2, 8, 4, 4, 3)).Data)),
		func(d *disk.Disk) api.Errno { return d.Rename("manifest.new", "manifest") })
	return all
}

// again opens a disk once more, and asks for the same State, but for what was torn, which is so many bytes now.
func again(t testing.TB, why string, d *disk.Disk, was shown, torn ...int) {
	t.Helper()
	s, e := revive.Open(d, 1)
	if e != api.OK {
		t.Errorf("%s: %v", why, e)
		return
	}
	is := shownOf(s)
	if !slices.Contains(torn, is.opened.Torn) {
		t.Errorf("%s: %d bytes are torn", why, is.opened.Torn)
	}
	is.opened.Torn = was.opened.Torn
	if !is.same(was) {
		t.Errorf("%s: %+v, not %+v", why, is, was)
	}
}

// P17.3: opened twice, with nothing between, and with a crash of each Picks between.
func TestAgain(t *testing.T) {
	torn := 0
	for _, c := range pendeds(t) {
		first := func() (*disk.Disk, shown) {
			s, e, d := agrees(t, c.what, c.build, 2)
			if e != api.OK {
				t.Fatalf("P17.3: %s: %v", c.what, e)
			}
			return d, shownOf(s)
		}
		d, was := first()
		torn += was.opened.Torn
		again(t, "P17.3: "+c.what, d, was, 0)
		again(t, "P17.3: a third time: "+c.what, d, was, 0)
		for _, p := range picksFor(d) {
			d, _ := first()
			d.Crash(p)
			again(t, fmt.Sprintf("P17.3: %s, crash %v", c.what, p), d, was, 0)
			// Nothing that is read is pending any more, whatever the next crash picks.
			d.Crash(api.Picks{Names: 1, Files: slices.Repeat([]api.Pick{{Done: 1, Lost: []int{0}}}, 9)})
			again(t, fmt.Sprintf("P17.3: %s, crash %v, and another one", c.what, p), d, was, 0)
		}
	}
	if torn == 0 {
		t.Errorf("P17.3: no directory was torn")
	}
}

// P17.3, P0.4: behind a crash, the first opening is stopped at each stroke, and so is the second one; each time with a crash of each Picks behind it.
func TestStopped(t *testing.T) {
	for _, c := range scenes() {
		s, e := revive.Open(c.files.disk(t), 1)
		if e != api.OK {
			t.Fatal(c.what, e)
		}
		was := shownOf(s)
		torn := []int{0, was.opened.Torn}
		stopped := func(d *disk.Disk, k int) {
			d.Plan(strokeFails(k, api.FaultOff))
			if s, e := revive.Open(d, 1); (s == nil) != (e == api.ErrOff) || d.Off() != (s == nil) {
				t.Errorf("P17.2: %s: stroke %d: %v, %v", c.what, k, s, e)
			}
		}
		for k := 1; k <= c.strokes; k++ {
			d := c.files.disk(t)
			stopped(d, k)
			all := picksFor(d)
			for i, p := range all {
				for k2 := 1; k2 <= c.strokes; k2++ {
					d := c.files.disk(t)
					stopped(d, k)
					d.Crash(p)
					stopped(d, k2)
					d.Crash(all[(i*7+k2)%len(all)])
					why := fmt.Sprintf("P17.3: %s, stopped at %d and %d, crash %v", c.what, k, k2, p)
					again(t, why, d, was, torn...)
					again(t, why, d, was, 0)
				}
			}
		}
	}
}

// P17.3: an opening fails at each stroke while the power stays on; the next one needs no crash.
func TestFailedThenAgain(t *testing.T) {
	for _, c := range pendeds(t) {
		s, e := revive.Open(c.build(), 1)
		if e != api.OK {
			t.Fatal(c.what, e)
		}
		was := shownOf(s)
		for k := 1; k <= 3; k++ {
			for _, kind := range []int{api.FaultIO, api.FaultFull} {
				d := c.build()
				d.Plan(strokeFails(k, kind))
				revive.Open(d, 1)
				d.Plan(api.Plan{})
				why := fmt.Sprintf("P17.3: %s, stroke %d failed", c.what, k)
				again(t, why, d, was, 0, was.opened.Torn)
				again(t, why, d, was, 0)
			}
		}
	}
}

// P17.1, 8: behind an opening nothing is pending of the names, nor of the last segment; other files stay as they were.
func TestSafeThen(t *testing.T) {
	for _, c := range pendeds(t) {
		ahead := c.build()
		_, e, d := agrees(t, c.what, c.build, 1)
		if e != api.OK {
			t.Fatal(c.what, e)
		}
		if names, _ := d.Pending(); names != 0 {
			t.Errorf("P17.1: %s: %d changes of the names are pending", c.what, names)
		}
		last := ""
		for _, f := range d.Files() {
			if slowFirst(f.Name) > 0 {
				last = f.Name
			}
		}
		for _, f := range d.Files() {
			now, then := f.Data, dir(ahead.Files()).bytes(f.Name)
			if f.Name == last {
				if !slices.Equal(now, dir(d.Safe()).bytes(f.Name)) || len(now) > len(then) || !slices.Equal(now, then[:len(now)]) {
					t.Errorf("P17.1: %s: the last segment has %x, and was %x", c.what, now, then)
				}
			} else if !slices.Equal(now, then) {
				t.Errorf("P17.1: %s: %s has changed", c.what, f.Name)
			}
		}
	}
}
