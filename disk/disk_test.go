package disk_test

import (
	"bytes"
	"fmt"
	"math"
	"runtime"
	"slices"
	"strings"
	"testing"
	"unsafe"
	"weak"

	"treadle/api"
	"treadle/disk"
)

// made is a disk that may be.
func made(t *testing.T, room, files int) *disk.Disk {
	t.Helper()
	d, e := disk.New(room, files)
	if e != api.OK || d == nil {
		t.Fatalf("P3.1: New(%d, %d): %v", room, files, e)
	}
	return d
}

// fine: each of these calls answers OK.
func fine(t *testing.T, l ...api.Errno) {
	t.Helper()
	for i, e := range l {
		if e != api.OK {
			t.Fatalf("call %d: %v", i, e)
		}
	}
}

// is holds two things against each other as texts.
func is(t *testing.T, promise string, got, want any) {
	t.Helper()
	if g, w := fmt.Sprint(got), fmt.Sprint(want); g != w {
		t.Errorf("%s: %s, not %s", promise, g, w)
	}
}

// of is n bytes c.
func of(c byte, n int) []byte { return bytes.Repeat([]byte{c}, n) }

// file is a file as it is told.
func file(name string, data ...byte) api.FileBytes { return api.FileBytes{Name: name, Data: data} }

// files is files as a text.
func files(l ...api.FileBytes) string { return show(l) }

// held is what Held tells, as a text.
func held(d *disk.Disk) string {
	b, n := d.Held()
	return fmt.Sprint(b, " of ", n)
}

// pending is what Pending tells, as a text.
func pending(d *disk.Disk) string {
	n, l := d.Pending()
	return fmt.Sprintf("%d%v", n, l)
}

// list is what List tells, as a text.
func list(d *disk.Disk) string {
	l, e := d.List()
	return fmt.Sprint(strings.Join(l, " "), ", ", int(e))
}

// named is every call that takes a name, asked with this one.
func named(d *disk.Disk, name string) map[string]api.Errno {
	_, read := d.Read(name)
	return map[string]api.Errno{
		"Read":     read,
		"Append":   d.Append(name, nil),
		"Truncate": d.Truncate(name, 0),
		"Sync":     d.Sync(name),
		"Rename":   d.Rename(name, "other"),
		"to":       d.Rename("there", name),
		"Remove":   d.Remove(name),
		"Create":   d.Create(name),
		"Hand":     d.Hand(name, nil),
	}
}

// The chapter's examples, one after another.
func TestExamples(t *testing.T) {
	for _, l := range [][2]int{{-1, 1}, {4194305, 1}, {0, 513}} {
		if d, e := disk.New(l[0], l[1]); d != nil || e != api.ErrArg {
			t.Error("examples: New", l, e)
		}
	}
	d := made(t, 100, 3)
	is(t, "examples", []api.Errno{d.Create("a"), d.Create("a"), d.Create(""), d.Create("a b"), d.Append("b", []byte{1})},
		[]api.Errno{api.OK, api.ErrExists, api.ErrName, api.ErrName, api.ErrNone})
	is(t, "examples", d.Strokes(), 1)
	fine(t, d.Append("a", of(7, 20)))
	is(t, "examples", show(d.Files()), files(file("a", of(7, 20)...)))
	is(t, "examples", show(d.Safe()), "")
	is(t, "examples", pending(d), "1[1]")
	is(t, "examples", []api.Errno{d.Append("a", of(7, 81)), d.Truncate("a", 10), d.Append("a", of(7, 90))}, []api.Errno{api.ErrFull, api.OK, api.OK})
	is(t, "examples", held(d), "100 of 1")
	fine(t, d.Truncate("a", 0), d.Append("a", of(7, 100)))
	is(t, "examples", held(d), "100 of 1")
	is(t, "examples", d.Append("a", []byte{1}), api.ErrFull)
	is(t, "examples", show(d.Crash(api.Picks{})), "")
	is(t, "examples", list(d), ", 0")

	d = made(t, 100, 3)
	fine(t, d.Create("a"), d.Append("a", of(7, 20)), d.SyncNames())
	is(t, "examples", show(d.Crash(api.Picks{Files: []api.Pick{{Done: 1, Lost: []int{0}}}})), files(file("a", of(7, 20)...)))
	is(t, "examples", show(d.Safe()), files(file("a", append(of(0, 16), of(7, 4)...)...)))
	is(t, "examples", pending(d), "0[0]")

	d = made(t, 100, 3)
	fine(t, d.Create("a"), d.Append("a", of(5, 4)), d.Sync("a"), d.Append("a", of(7, 20)), d.SyncNames())
	is(t, "examples", show(d.Crash(api.Picks{Files: []api.Pick{{Done: 1, Lost: []int{0, 2}}}})), files(file("a", append(of(5, 4), of(7, 20)...)...)))
	is(t, "examples", show(d.Safe()), files(file("a", slices.Concat(of(5, 4), of(0, 12), of(7, 8))...)))

	d = made(t, 100, 3)
	fine(t, d.Create("a"), d.SyncNames(), d.Rename("a", "b"), d.Create("a"))
	is(t, "examples", show(d.Crash(api.Picks{Names: 1})), files(file("b")))

	d = made(t, 100, 3)
	fine(t, d.Create("a"), d.Create("b"), d.Create("e"), d.SyncNames(), d.Sync("a"), d.Sync("b"), d.Sync("e"))
	is(t, "examples", []api.Errno{d.Remove("a"), d.Create("c"), d.SyncNames(), d.Create("c")}, []api.Errno{api.OK, api.ErrFiles, api.OK, api.OK})

	d = made(t, 100, 3)
	fine(t, d.Create("a"), d.Append("a", []byte{1}))
	was := show(d.Files())
	d.Plan(api.Plan{Strokes: []api.Fault{{At: 2, Kind: api.FaultOff}}})
	is(t, "examples", []api.Errno{d.Sync("a"), d.Sync("a"), d.Sync("a")}, []api.Errno{api.OK, api.ErrOff, api.ErrOff})
	is(t, "examples", d.Off(), true)
	is(t, "examples", show(d.Files()), was)
	fine(t, d.Hand("m", []byte{1, 2, 3}))
	is(t, "examples", show(d.Safe()), files(file("a", 1), file("m", 1, 2, 3)))
}

// P3.1: room and files at their limits.
func TestNew(t *testing.T) {
	for _, room := range []int{math.MinInt, -1, 0, 1, api.MaxRoom - 1, api.MaxRoom, api.MaxRoom + 1, math.MaxInt} {
		for _, count := range []int{math.MinInt, -1, 0, 1, api.MaxFiles - 1, api.MaxFiles, api.MaxFiles + 1, math.MaxInt} {
			d, e := disk.New(room, count)
			if room < 0 || room > api.MaxRoom || count < 0 || count > api.MaxFiles {
				if d != nil || e != api.ErrArg {
					t.Errorf("P3.1: New(%d, %d): %v", room, count, e)
				}
				continue
			}
			if d == nil || e != api.OK {
				t.Fatalf("P3.1: New(%d, %d): %v", room, count, e)
			}
			is(t, "P3.1", ask(d), ask(newModel(0, 0)))
		}
	}
}

// P3.1: a disk takes as many bytes and as many files as it was made for.
func TestLimits(t *testing.T) {
	for _, room := range []int{1, 2, 100, api.MaxRoom - 1, api.MaxRoom} {
		d := made(t, room, 1)
		fine(t, d.Create("a"))
		is(t, "P3.1, one above", d.Append("a", make([]byte, room+1)), api.ErrFull)
		fine(t, d.Append("a", make([]byte, room-1)), d.Append("a", []byte{1}))
		is(t, "P3.1, one more", d.Append("a", []byte{1}), api.ErrFull)
		is(t, "P3.1", held(d), fmt.Sprint(room, " of 1"))
	}
	for _, count := range []int{1, 2, api.MaxFiles - 1, api.MaxFiles} {
		d := made(t, 0, count)
		for i := range count {
			fine(t, d.Create(fmt.Sprint("f", i)))
		}
		is(t, "P3.1, one more", d.Create("more"), api.ErrFiles)
		is(t, "P3.1", held(d), fmt.Sprint("0 of ", count))
	}
}

// P3.1: a zero Disk answers all calls as New(0, 0) does.
func TestZeroDisk(t *testing.T) {
	z, d := &disk.Disk{}, made(t, 0, 0)
	for _, call := range []func(face) string{
		func(d face) string {
			return fmt.Sprint(d.Create("a"), d.Create(""), d.Append("a", nil), d.Truncate("a", 0))
		},
		func(d face) string { return fmt.Sprint(d.Sync("a"), d.SyncNames(), d.Rename("a", "a"), d.Remove("a")) },
		func(d face) string {
			p, e := d.Read("a")
			l, g := d.List()
			return fmt.Sprint(p, e, l, g)
		},
		func(d face) string { return fmt.Sprint(d.Hand("", nil), d.Hand("a", nil), d.Hand("a", []byte{1})) },
		func(d face) string { return show(d.Crash(api.Picks{Names: 3, Files: []api.Pick{{Done: 1}}})) },
		func(d face) string {
			d.Plan(api.Plan{Strokes: []api.Fault{{At: 1, Kind: api.FaultIO}, {At: 2, Kind: api.FaultOff}}})
			return fmt.Sprint(d.SyncNames(), d.Create("a"), d.Create("a"))
		},
		func(d face) string { return show(d.Crash(api.Picks{})) },
	} {
		got, want := call(z), call(d)
		is(t, "P3.1, a zero Disk", got, want)
		is(t, "P3.1, a zero Disk", ask(z), ask(d))
		if strings.Contains(ask(z), "held 0 1") {
			t.Error("P3.1: a zero Disk has taken a file")
		}
	}
	is(t, "P3.1", z.Create("a"), api.ErrFiles)
	is(t, "P3.1", z.Hand("a", nil), api.ErrFiles)
}

// P3.2: what is a name, and what is none, to each call that takes one.
func TestNameForms(t *testing.T) {
	for name, good := range map[string]bool{
		"": false, "a": true, "!": true, "~": true, " ": false, "\x7f": false, "\x00": false, "\x80": false, "\xff": false,
		"a b": false, " a": false, "a ": false, "a\x7fb": false, "a!b": true, "a~b": true, "é": false, "a\n": false,
		"/": true, ".": true, "a/b.c": true, "A": true, "0": true,
		strings.Repeat("x", 39): true, strings.Repeat("x", 40): true, strings.Repeat("x", 41): false, strings.Repeat("x", 1<<20): false,
		strings.Repeat("~", 40): true, strings.Repeat("x", 39) + " ": false, strings.Repeat("x", 40) + "\x7f": false,
	} {
		d := made(t, 100, 9)
		fine(t, d.Create("there"))
		for call, e := range named(d, name) {
			if (e == api.ErrName) == good {
				t.Errorf("P3.2: %s of %.50q: %v", call, name, e)
			}
		}
		if good == (d.Strokes() == 1) {
			t.Errorf("P3.2: %.50q: %d strokes", name, d.Strokes())
		}
	}
	for c := range 256 {
		d := made(t, 0, 1)
		want := api.OK
		if c < 33 || c > 126 {
			want = api.ErrName
		}
		is(t, fmt.Sprint("P3.2, byte ", c), d.Create("k"+string([]byte{byte(c)})), want)
	}
}

// P3.3: a file stays itself when its name changes, with what is safe of it and what is pending.
func TestFileStaysItself(t *testing.T) {
	d := made(t, 100, 4)
	fine(t, d.Create("a"), d.Append("a", []byte{1, 2}), d.Sync("a"), d.SyncNames(), d.Append("a", []byte{3}))
	fine(t, d.Rename("a", "b"), d.Append("b", []byte{4}), d.Create("a"), d.Append("a", []byte{9}))
	is(t, "P3.3", show(d.Files()), files(file("a", 9), file("b", 1, 2, 3, 4)))
	is(t, "P3.3", show(d.Safe()), files(file("a", 1, 2)))
	is(t, "P3.3", pending(d), "2[2 1]")
	fine(t, d.Sync("b"))
	is(t, "P3.3, synced by its new name", show(d.Safe()), files(file("a", 1, 2, 3, 4)))
	is(t, "P3.3", show(d.Crash(api.Picks{})), files(file("a", 1, 2, 3, 4)))
}

// P3.3: the bytes are what the safe ones become, change by change.
func TestChangesInOrder(t *testing.T) {
	d := made(t, 100, 1)
	fine(t, d.Create("a"), d.Append("a", []byte{1, 2, 3}), d.Sync("a"), d.SyncNames())
	fine(t, d.Truncate("a", 1), d.Append("a", []byte{4, 5}), d.Truncate("a", 2), d.Append("a", []byte{6}), d.Append("a", nil), d.Truncate("a", 3))
	is(t, "P3.3", pending(d), "0[4]")
	is(t, "P3.3", show(d.Files()), files(file("a", 1, 4, 6)))
	is(t, "P3.3", show(d.Safe()), files(file("a", 1, 2, 3)))
	for k, want := range [][]byte{{1, 2, 3}, {1}, {1, 4, 5}, {1, 4}, {1, 4, 6}} {
		d := made(t, 100, 1)
		fine(t, d.Hand("a", []byte{1, 2, 3}), d.Truncate("a", 1), d.Append("a", []byte{4, 5}), d.Truncate("a", 2), d.Append("a", []byte{6}))
		is(t, "P3.3", show(d.Crash(api.Picks{Files: []api.Pick{{Done: k}}})), files(file("a", want...)))
		is(t, "P3.3", show(d.Files()), files(file("a", want...)))
	}
}

// P3.3: a Rename to a name that is taken; that name's file is found no more, but behind a crash.
func TestRenameOver(t *testing.T) {
	for names, want := range []string{
		files(file("a", 1), file("b", 2)),
		files(file("b", 1)),
		files(file("c", 1)),
		files(file("b"), file("c", 1)),
		files(file("b")),
	} {
		d := made(t, 100, 3)
		fine(t, d.Hand("a", []byte{1}), d.Hand("b", []byte{2}))
		fine(t, d.Rename("a", "b"), d.Rename("b", "c"), d.Create("b"), d.Remove("c"), d.Rename("b", "b"))
		is(t, "P3.3", pending(d), "4[0 0 0]")
		is(t, "P3.3", show(d.Files()), files(file("b")))
		is(t, "P3.3", held(d), "2 of 3")
		is(t, "P3.3", show(d.Crash(api.Picks{Names: names})), want)
		is(t, "P3.3", show(d.Safe()), want)
	}
}

// P3.4: what is held behind each kind of change, synced and not.
func TestHeld(t *testing.T) {
	d := made(t, 100, 4)
	for i, c := range []struct {
		e    api.Errno
		held string
	}{
		{d.Create("a"), held(d)},
		{d.Append("a", of(1, 10)), held(d)},
		{d.Truncate("a", 4), held(d)},
		{d.Append("a", of(2, 5)), held(d)},
		{d.Append("a", of(3, 5)), held(d)},
		{d.Sync("a"), held(d)},
		{d.Truncate("a", 0), held(d)},
		{d.Append("a", of(4, 14)), held(d)},
		{d.Sync("a"), held(d)},
		{d.Truncate("a", 3), held(d)},
		{d.Sync("a"), held(d)},
		{d.SyncNames(), held(d)},
		{d.Create("b"), held(d)},
		{d.Append("b", of(5, 20)), held(d)},
		{d.Rename("b", "a"), held(d)},
		{d.Create("b"), held(d)},
		{d.Remove("b"), held(d)},
		{d.Remove("a"), held(d)},
		{d.SyncNames(), held(d)},
	} {
		want := []string{"0 of 1", "10 of 1", "10 of 1", "10 of 1", "14 of 1", "14 of 1", "14 of 1", "14 of 1", "14 of 1", "14 of 1",
			"3 of 1", "3 of 1", "3 of 2", "23 of 2", "23 of 2", "23 of 3", "23 of 3", "23 of 3", "0 of 0"}[i]
		is(t, fmt.Sprint("P3.4, step ", i), c.e, api.OK)
		is(t, fmt.Sprint("P3.4, step ", i), c.held, want)
	}
}

// P3.4: a file that was made and removed lives till the names are synced, since a crash between may leave it.
func TestLivesBetween(t *testing.T) {
	for names, want := range []string{"", files(file("a", 1, 2)), ""} {
		d := made(t, 100, 1)
		fine(t, d.Create("a"), d.Append("a", []byte{1, 2}), d.Sync("a"), d.Remove("a"))
		is(t, "P3.4", held(d), "2 of 1")
		is(t, "P3.4", pending(d), "2[0]")
		is(t, "P3.4", d.Create("b"), api.ErrFiles)
		is(t, "P3.4", show(d.Crash(api.Picks{Names: names})), want)
	}
	d := made(t, 100, 1)
	fine(t, d.Create("a"), d.Append("a", of(1, 100)), d.Remove("a"), d.SyncNames(), d.Create("a"), d.Append("a", of(1, 100)))
	is(t, "P3.4", held(d), "100 of 1")
	is(t, "P3.4", pending(d), "1[1]")
}

// P3.4: bytes that were cut off, or whose file was removed, are held till they are synced, and then are free.
func TestRoomComesBack(t *testing.T) {
	d := made(t, 100, 2)
	fine(t, d.Create("a"), d.Append("a", of(1, 60)), d.Create("b"), d.SyncNames(), d.Sync("a"), d.Truncate("a", 10))
	is(t, "P3.4", d.Append("b", of(1, 41)), api.ErrFull)
	fine(t, d.Sync("a"))
	is(t, "P3.4", d.Append("b", of(1, 91)), api.ErrFull)
	fine(t, d.Append("b", of(1, 90)), d.Remove("a"))
	is(t, "P3.4", d.Append("b", of(1, 1)), api.ErrFull)
	fine(t, d.Sync("b"), d.SyncNames(), d.Append("b", of(1, 10)))
	is(t, "P3.4", held(d), "100 of 1")
}

// refused holds a call that fails against one that has not been: nothing has changed but the counts, which are told.
func refused(t *testing.T, promise string, d *disk.Disk, call func() api.Errno, want api.Errno, strokes, reads int) {
	t.Helper()
	was := ask(d)
	s, r := d.Strokes(), d.Reads()
	is(t, promise, call(), want)
	is(t, promise+": strokes", d.Strokes()-s, strokes)
	is(t, promise+": readings", d.Reads()-r, reads)
	count := func(s, r int) string { return fmt.Sprintf(" strokes %d reads %d ", s, r) }
	is(t, promise+": changed", strings.Replace(ask(d), count(d.Strokes(), d.Reads()), count(s, r), 1), was)
}

// P3.5, P3.6, P3.14: every error ahead of the stroke, in its order; none of them is counted.
func TestErrorsAhead(t *testing.T) {
	d := made(t, 20, 2)
	fine(t, d.Create("a"), d.Append("a", []byte{1, 2, 3}), d.Sync("a"), d.Create("b"), d.SyncNames(), d.Append("a", []byte{4}), d.Truncate("a", 2))
	read := func(name string) func() api.Errno {
		return func() api.Errno {
			p, e := d.Read(name)
			if p != nil {
				t.Error("W3: bytes beside an error")
			}
			return e
		}
	}
	for i, c := range []struct {
		call func() api.Errno
		want api.Errno
	}{
		{func() api.Errno { return d.Create("") }, api.ErrName},
		{func() api.Errno { return d.Create("a") }, api.ErrExists},
		{func() api.Errno { return d.Append(" ", of(1, 99)) }, api.ErrName},
		{func() api.Errno { return d.Append("c", of(1, 99)) }, api.ErrNone},
		{func() api.Errno { return d.Truncate(" ", -1) }, api.ErrName},
		{func() api.Errno { return d.Truncate("c", -1) }, api.ErrNone},
		{func() api.Errno { return d.Truncate("a", -1) }, api.ErrArg},
		{func() api.Errno { return d.Truncate("a", 3) }, api.ErrArg},
		{func() api.Errno { return d.Truncate("a", math.MaxInt) }, api.ErrArg},
		{func() api.Errno { return d.Truncate("a", math.MinInt) }, api.ErrArg},
		{func() api.Errno { return d.Truncate("b", 1) }, api.ErrArg},
		{func() api.Errno { return d.Sync("") }, api.ErrName},
		{func() api.Errno { return d.Sync("c") }, api.ErrNone},
		{func() api.Errno { return d.Rename("", "b") }, api.ErrName},
		{func() api.Errno { return d.Rename("a", "") }, api.ErrName},
		{func() api.Errno { return d.Rename("c", "") }, api.ErrName},
		{func() api.Errno { return d.Rename("c", "a") }, api.ErrNone},
		{func() api.Errno { return d.Rename("c", "c") }, api.ErrNone},
		{func() api.Errno { return d.Remove("") }, api.ErrName},
		{func() api.Errno { return d.Remove("c") }, api.ErrNone},
		{read(""), api.ErrName},
		{read("c"), api.ErrNone},
	} {
		refused(t, fmt.Sprint("P3.5, call ", i), d, c.call, c.want, 0, 0)
	}
}

// strokes is a call of each stroke that would go through on the disk that strokeDisk makes.
func strokes(d face) []func() api.Errno {
	return []func() api.Errno{
		func() api.Errno { return d.Create("c") },
		func() api.Errno { return d.Append("a", []byte{5}) },
		func() api.Errno { return d.Append("a", nil) },
		func() api.Errno { return d.Truncate("a", 1) },
		func() api.Errno { return d.Truncate("a", 4) },
		func() api.Errno { return d.Sync("a") },
		func() api.Errno { return d.SyncNames() },
		func() api.Errno { return d.Rename("a", "c") },
		func() api.Errno { return d.Rename("a", "a") },
		func() api.Errno { return d.Remove("b") },
	}
}

func strokeDisk(t *testing.T) *disk.Disk {
	t.Helper()
	d := made(t, 20, 3)
	fine(t, d.Create("a"), d.Append("a", []byte{1, 2, 3}), d.Sync("a"), d.SyncNames(), d.Append("a", []byte{4}), d.Create("b"))
	d.Plan(api.Plan{})
	return d
}

// P3.5: what each stroke does when nothing is in its way; each is counted, also one that does nothing.
func TestStrokesDone(t *testing.T) {
	for i, want := range []struct{ files, safe, pending string }{
		{files(file("a", 1, 2, 3, 4), file("b"), file("c")), files(file("a", 1, 2, 3)), "2[1 0 0]"},
		{files(file("a", 1, 2, 3, 4, 5), file("b")), files(file("a", 1, 2, 3)), "1[2 0]"},
		{files(file("a", 1, 2, 3, 4), file("b")), files(file("a", 1, 2, 3)), "1[1 0]"},
		{files(file("a", 1), file("b")), files(file("a", 1, 2, 3)), "1[2 0]"},
		{files(file("a", 1, 2, 3, 4), file("b")), files(file("a", 1, 2, 3)), "1[1 0]"},
		{files(file("a", 1, 2, 3, 4), file("b")), files(file("a", 1, 2, 3, 4)), "1[0 0]"},
		{files(file("a", 1, 2, 3, 4), file("b")), files(file("a", 1, 2, 3), file("b")), "0[1 0]"},
		{files(file("b"), file("c", 1, 2, 3, 4)), files(file("a", 1, 2, 3)), "2[1 0]"},
		{files(file("a", 1, 2, 3, 4), file("b")), files(file("a", 1, 2, 3)), "1[1 0]"},
		{files(file("a", 1, 2, 3, 4)), files(file("a", 1, 2, 3)), "2[1 0]"},
	} {
		d := strokeDisk(t)
		promise := fmt.Sprint("P3.5, stroke ", i)
		is(t, promise, strokes(d)[i](), api.OK)
		is(t, promise, d.Strokes(), 1)
		is(t, promise, d.Reads(), 0)
		is(t, promise, show(d.Files()), want.files)
		is(t, promise, show(d.Safe()), want.safe)
		is(t, promise, pending(d), want.pending)
	}
}

// P3.5, P3.7, P3.14: each kind of fault for each stroke: counted, and nothing has changed but that, and the power.
func TestStrokesFail(t *testing.T) {
	for i := range strokes(nil) {
		for kind, want := range map[int]api.Errno{api.FaultIO: api.ErrIO, api.FaultFull: api.ErrFull} {
			d := strokeDisk(t)
			d.Plan(api.Plan{Strokes: []api.Fault{{At: 1, Kind: kind}}, Reads: []api.Fault{{At: 1, Kind: api.FaultOff}}})
			refused(t, fmt.Sprint("P3.5, stroke ", i), d, strokes(d)[i], want, 1, 0)
			is(t, "P3.7, the next one", strokes(d)[i](), api.OK)
			is(t, "P3.5", d.Strokes(), 2)
		}
		d := strokeDisk(t)
		d.Plan(api.Plan{Strokes: []api.Fault{{At: 1, Kind: api.FaultOff}}})
		was := show(d.Files()) + show(d.Safe()) + pending(d) + held(d)
		is(t, "P3.5", strokes(d)[i](), api.ErrOff)
		is(t, "P3.5", d.Off(), true)
		is(t, "P3.5", show(d.Files())+show(d.Safe())+pending(d)+held(d), was)
		for j := range strokes(d) {
			refused(t, fmt.Sprint("P3.5, the power off, stroke ", j), d, strokes(d)[j], api.ErrOff, 0, 0)
		}
		is(t, "P3.5", d.Strokes(), 1)
	}
}

// P3.5: the power is asked first, of wrong arguments too; then the errors ahead, then the fault, then what stands behind the bar.
func TestOrderOfErrors(t *testing.T) {
	full := func() *disk.Disk {
		d := made(t, 2, 1)
		fine(t, d.Create("a"), d.Append("a", []byte{1, 2}))
		return d
	}
	for kind, want := range map[int]api.Errno{api.FaultIO: api.ErrIO, api.FaultOff: api.ErrOff, api.FaultFull: api.ErrFull} {
		d := full()
		d.Plan(api.Plan{Strokes: []api.Fault{{At: 1, Kind: kind}}})
		is(t, "P3.5, ahead of the fault", []api.Errno{d.Create(""), d.Create("a"), d.Append("b", of(1, 9)), d.Truncate("a", 3), d.Rename("a", "")},
			[]api.Errno{api.ErrName, api.ErrExists, api.ErrNone, api.ErrArg, api.ErrName})
		is(t, "P3.5, the fault ahead of ErrFiles", d.Create("b"), want)
		d = full()
		d.Plan(api.Plan{Strokes: []api.Fault{{At: 1, Kind: kind}}})
		is(t, "P3.5, the fault ahead of ErrFull", d.Append("a", of(1, 9)), want)
	}
	d := full()
	s := d.Strokes()
	refused(t, "P3.5, ErrFiles", d, func() api.Errno { return d.Create("b") }, api.ErrFiles, 1, 0)
	refused(t, "P3.5, ErrFull", d, func() api.Errno { return d.Append("a", []byte{1}) }, api.ErrFull, 1, 0)
	is(t, "P3.5", d.Strokes(), s+2)
	fine(t, d.Append("a", nil))

	d.Plan(api.Plan{Strokes: []api.Fault{{At: 1, Kind: api.FaultOff}}})
	d.SyncNames()
	for call, e := range named(d, "a b") {
		if call != "Hand" {
			is(t, "P3.5, the power first, "+call, e, api.ErrOff)
		}
	}
	is(t, "P3.5, the power first", []api.Errno{d.Create("a"), d.Truncate("a", -1), d.Append("c", nil), d.SyncNames()}, of4(api.ErrOff))
}

func of4(e api.Errno) []api.Errno { return []api.Errno{e, e, e, e} }

// P3.6: Read and List: what is counted, what fails, and how.
func TestReading(t *testing.T) {
	d := made(t, 100, 9)
	fine(t, d.Create("b"), d.Create("a"), d.Create("ab"), d.Create("B"), d.Create("~"), d.Create("a!"), d.Append("a", []byte{3, 1, 2}), d.Remove("~"))
	is(t, "P3.6, byte by byte", list(d), "B a a! ab b, 0")
	is(t, "P3.6, List is free", fmt.Sprint(d.Reads(), d.Strokes()), "0 8")
	for i := range 5 {
		p, e := d.Read("a")
		is(t, "P3.6", fmt.Sprint(p, e == api.OK, d.Reads()), fmt.Sprint([]byte{3, 1, 2}, true, i+1))
	}
	p, e := d.Read("b")
	is(t, "P3.6, a file without bytes", fmt.Sprint(len(p), e == api.OK), "0 true")
	is(t, "P3.6", d.Strokes(), 8)

	read := func() api.Errno {
		p, e := d.Read("a")
		if p != nil && e != api.OK {
			t.Error("W3: bytes beside an error")
		}
		return e
	}
	d.Plan(api.Plan{Reads: []api.Fault{{At: 2, Kind: api.FaultIO}, {At: 3, Kind: api.FaultFull}, {At: 5, Kind: api.FaultOff}}})
	is(t, "P3.6", []api.Errno{read(), read(), read(), read()}, []api.Errno{api.OK, api.ErrIO, api.ErrFull, api.OK})
	is(t, "P3.6", d.Off(), false)
	is(t, "P3.6", read(), api.ErrOff)
	is(t, "P3.6", fmt.Sprint(d.Off(), d.Reads(), d.Strokes()), "true 5 0")
	refused(t, "P3.6", d, read, api.ErrOff, 0, 0)
	refused(t, "P3.6", d, func() api.Errno { _, e := d.Read(""); return e }, api.ErrOff, 0, 0)
	l, e := d.List()
	is(t, "P3.6", fmt.Sprint(l == nil, e == api.ErrOff), "true true")
	is(t, "P3.6", d.SyncNames(), api.ErrOff)
}

// P3.7: faults at each place; what does not fail is done.
func TestPlanPlaces(t *testing.T) {
	for at := -1; at < 8; at++ {
		d := made(t, 100, 1)
		fine(t, d.Create("a"))
		d.Plan(api.Plan{Strokes: []api.Fault{{At: at, Kind: api.FaultIO}}, Reads: []api.Fault{{At: at, Kind: api.FaultFull}}})
		is(t, "P3.7", fmt.Sprint(d.Strokes(), d.Reads()), "0 0")
		var want []byte
		for i := 1; i <= 6; i++ {
			e, r := api.OK, api.OK
			if i == at {
				e, r = api.ErrIO, api.ErrFull
			} else {
				want = append(want, byte(i))
			}
			is(t, "P3.7", d.Append("a", []byte{byte(i)}), e)
			_, read := d.Read("a")
			is(t, "P3.7", read, r)
			is(t, "P3.7", fmt.Sprint(d.Strokes(), d.Reads()), fmt.Sprint(i, i))
		}
		is(t, "P3.14", show(d.Files()), files(file("a", want...)))
	}
}

// P3.7: of several the first holds; a kind that is none is nothing, so it hides none behind it.
func TestPlanSeveral(t *testing.T) {
	for _, c := range []struct {
		kinds []int
		want  api.Errno
	}{
		{nil, api.OK},
		{[]int{api.FaultIO, api.FaultFull}, api.ErrIO},
		{[]int{api.FaultFull, api.FaultIO}, api.ErrFull},
		{[]int{api.FaultOff, api.FaultIO}, api.ErrOff},
		{[]int{api.FaultIO, api.FaultOff}, api.ErrIO},
		{[]int{api.FaultIO, 0}, api.ErrIO},
		{[]int{0}, api.OK}, {[]int{-1}, api.OK}, {[]int{4}, api.OK}, {[]int{math.MaxInt}, api.OK}, {[]int{math.MinInt}, api.OK},
		{[]int{4, 0, api.FaultFull, api.FaultIO}, api.ErrFull},
	} {
		d := made(t, 100, 1)
		fine(t, d.Create("a"))
		var l []api.Fault
		for _, kind := range c.kinds {
			l = append(l, api.Fault{At: 2, Kind: kind}, api.Fault{At: 3, Kind: 0}, api.Fault{At: 0, Kind: api.FaultOff})
		}
		d.Plan(api.Plan{Strokes: l})
		is(t, fmt.Sprint("P3.7, strokes ", c.kinds), []api.Errno{d.Sync("a"), d.Sync("a")}, []api.Errno{api.OK, c.want})
		is(t, "P3.7", d.Off(), c.want == api.ErrOff)
		d.Crash(api.Picks{Names: 1})
		d.Plan(api.Plan{Reads: l})
		_, first := d.Read("a")
		_, second := d.Read("a")
		is(t, fmt.Sprint("P3.7, reads ", c.kinds), []api.Errno{first, second}, []api.Errno{api.OK, c.want})
	}
}

// P3.7: a new plan takes the place of the old one, and does not bring the power back.
func TestPlanAgain(t *testing.T) {
	d := made(t, 100, 1)
	d.Plan(api.Plan{Strokes: []api.Fault{{At: 1, Kind: api.FaultIO}, {At: 3, Kind: api.FaultIO}}, Reads: []api.Fault{{At: 1, Kind: api.FaultIO}}})
	is(t, "P3.7", []api.Errno{d.Create("a"), d.Create("a")}, []api.Errno{api.ErrIO, api.OK})
	d.Plan(api.Plan{Strokes: []api.Fault{{At: 2, Kind: api.FaultOff}}})
	is(t, "P3.7, counted anew", fmt.Sprint(d.Strokes(), d.Reads()), "0 0")
	_, e := d.Read("a")
	is(t, "P3.7", e, api.OK)
	is(t, "P3.7", []api.Errno{d.Sync("a"), d.Sync("a")}, []api.Errno{api.OK, api.ErrOff})
	d.Plan(api.Plan{})
	is(t, "P3.7, the power", fmt.Sprint(d.Off(), d.Strokes(), d.Reads()), "true 0 0")
	is(t, "P3.7", d.Sync("a"), api.ErrOff)
	is(t, "P3.7", d.Strokes(), 0)
}

// P3.8: the first so many changes of the names, counted round, negative ones too.
func TestCrashNames(t *testing.T) {
	want := []string{"old", "new old", "new newer", "newer", "newer x"}
	for _, v := range []int{0, 1, 2, 3, 4, 5, 9, -1, -2, -4, -5, -6, 1000001, math.MaxInt, math.MinInt, math.MinInt + 1} {
		d := made(t, 100, 9)
		fine(t, d.Create("old"), d.SyncNames(), d.Create("new"), d.Rename("old", "newer"), d.Remove("new"), d.Create("x"))
		told := d.Crash(api.Picks{Names: v})
		l, _ := d.List()
		is(t, fmt.Sprint("P3.8, names ", v), strings.Join(l, " "), want[counted(v, 5)])
		is(t, "P3.8, the answer", show(told), show(d.Files()))
		is(t, "P3.8, safe too", show(d.Safe()), show(d.Files()))
		is(t, "P3.8, none pending", pending(d)[0], byte('0'))
		is(t, "P3.8, one that does not live is none", held(d), fmt.Sprint("0 of ", len(l)))
	}
}

// P3.8: each file takes its own Pick, in the order of making, those that a crash takes along counted in.
func TestCrashPicksByMaking(t *testing.T) {
	d := made(t, 100, 5)
	fine(t, d.Create("z"), d.Create("m"), d.Create("a"), d.Create("gone"), d.SyncNames(), d.Remove("gone"), d.Hand("h", []byte{9}))
	fine(t, d.Append("z", []byte{1}), d.Append("m", []byte{2}), d.Append("a", []byte{3}), d.Append("h", []byte{4}))
	fine(t, d.Rename("a", "b"), d.Rename("z", "c"), d.Remove("m"))
	is(t, "P3.8", pending(d), "3[1 1 1 1]")
	told := d.Crash(api.Picks{Names: 3, Files: []api.Pick{{Done: 0}, {Done: 1}, {Done: 1}}})
	is(t, "P3.8", show(told), files(file("b", 3), file("c"), file("h", 9)))
	is(t, "P3.8", show(d.Files()), show(told))
	fine(t, d.Append("b", []byte{5}), d.Append("h", []byte{6}), d.Append("c", []byte{7}))
	told = d.Crash(api.Picks{Files: []api.Pick{{Done: 1}, {}, {Done: -1}, {Done: 1}}})
	is(t, "P3.8, the order of making stays", show(told), files(file("b", 3), file("c", 7), file("h", 9, 6)))
}

// P3.8: the first so many changes of a file, counted round.
func TestCrashDone(t *testing.T) {
	want := [][]byte{{1, 2, 3}, {1, 2, 3, 4}, {1}, {1, 5, 6}}
	for _, v := range []int{0, 1, 2, 3, 4, 7, -1, -2, -3, -4, -5, math.MaxInt, math.MinInt} {
		d := made(t, 100, 1)
		fine(t, d.Hand("a", []byte{1, 2, 3}), d.Append("a", []byte{4}), d.Truncate("a", 1), d.Append("a", []byte{5, 6}))
		told := d.Crash(api.Picks{Files: []api.Pick{{Done: v}}})
		is(t, fmt.Sprint("P3.8, done ", v), show(told), files(file("a", want[counted(v, 4)]...)))
		is(t, "P3.8, the bytes", show(d.Files()), show(told))
		is(t, "P3.8, the safe bytes", show(d.Safe()), show(told))
		is(t, "P3.8", pending(d), "0[0]")
		is(t, "P3.8", held(d), fmt.Sprint(len(told[0].Data), " of 1"))
	}
}

// P3.8: lost sectors, the last one shorter; numbers counted round among the sectors.
func TestCrashLost(t *testing.T) {
	for size := range 50 {
		for _, lost := range [][]int{nil, {0}, {1}, {-1}, {2, 0}, {0, 0}, {7}, {math.MaxInt, math.MinInt}, {-3, -2, -1}} {
			d := made(t, 100, 1)
			fine(t, d.Hand("a", nil), d.Append("a", of(7, size)))
			want := of(7, size)
			for _, v := range lost {
				for i := range want {
					if i/16 == counted(v, (size+15)/16) {
						want[i] = 0
					}
				}
			}
			told := d.Crash(api.Picks{Files: []api.Pick{{Done: -1, Lost: lost}}})
			is(t, fmt.Sprint("P3.8, the whole row of ", size), show(told), files(file("a", of(7, size)...)))
			is(t, fmt.Sprint("P3.8, lost ", lost, " of ", size), show(d.Files()), files(file("a", want...)))
			is(t, "P3.8, safe", show(d.Safe()), show(d.Files()))
		}
	}
}

// P3.8: what is lost of a sector is what the changes brought; a safe byte that was cut off and laid again is theirs.
func TestCrashLostOfSafe(t *testing.T) {
	lost := []api.Pick{{Done: -1, Lost: []int{0, 1}}}
	d := made(t, 100, 1)
	fine(t, d.Hand("a", of(5, 20)), d.Append("a", of(7, 4)))
	d.Crash(api.Picks{Files: lost})
	is(t, "P3.8", show(d.Files()), files(file("a", append(of(5, 20), 0, 0, 0, 0)...)))

	fine(t, d.Truncate("a", 18), d.Append("a", of(5, 3)))
	is(t, "P3.8", show(d.Crash(api.Picks{Files: lost})), files(file("a", of(5, 21)...)))
	is(t, "P3.8", show(d.Files()), files(file("a", append(of(5, 18), 0, 0, 0)...)))

	fine(t, d.Truncate("a", 4), d.Truncate("a", 2), d.Append("a", of(5, 9)), d.Truncate("a", 3))
	d.Crash(api.Picks{Files: []api.Pick{{Done: 1, Lost: []int{0}}}})
	is(t, "P3.8, a cut alone loses nothing", show(d.Files()), files(file("a", of(5, 4)...)))

	fine(t, d.Append("a", of(6, 2)), d.Sync("a"), d.Append("a", []byte{8}))
	d.Crash(api.Picks{Files: lost})
	is(t, "P3.8, what was synced stays", show(d.Files()), files(file("a", 5, 5, 5, 5, 6, 6, 0)))
}

// P3.8: a crash brings the power back, takes the plan away and counts from 0 on, with the power on and off.
func TestCrashPower(t *testing.T) {
	for _, off := range []bool{false, true} {
		d := made(t, 100, 2)
		fine(t, d.Create("a"), d.Append("a", []byte{1}))
		plan := api.Plan{Strokes: []api.Fault{{At: 2, Kind: api.FaultIO}}, Reads: []api.Fault{{At: 1, Kind: api.FaultIO}}}
		if off {
			plan.Strokes = append(plan.Strokes, api.Fault{At: 1, Kind: api.FaultOff})
		}
		d.Plan(plan)
		is(t, "P3.8", d.Sync("a") == api.ErrOff, off)
		is(t, "P3.8", d.Off(), off)
		done := 0
		if off {
			done = 1
		}
		is(t, "P3.8", show(d.Crash(api.Picks{Names: 1, Files: []api.Pick{{Done: done}}})), files(file("a", 1)))
		is(t, "P3.8", fmt.Sprint(d.Off(), d.Strokes(), d.Reads()), "false 0 0")
		_, e := d.Read("a")
		is(t, "P3.8, nothing is planned", []api.Errno{d.Sync("a"), d.Sync("a"), d.SyncNames(), e}, of4(api.OK))
	}
}

// P3.8: more Picks than files, and none at all.
func TestCrashTooManyPicks(t *testing.T) {
	d := made(t, 100, 2)
	is(t, "P3.8", show(d.Crash(api.Picks{Names: 7, Files: []api.Pick{{Done: 3, Lost: []int{1}}, {}}})), "")
	fine(t, d.Hand("a", []byte{1}), d.Hand("b", nil), d.Append("a", []byte{2}), d.Append("b", []byte{3}))
	many := []api.Pick{{}, {Done: 1}, {Done: 1, Lost: []int{0}}, {Done: 1}}
	is(t, "P3.8", show(d.Crash(api.Picks{Files: many})), files(file("a", 1), file("b", 3)))
}

// P3.9: Hand with the name free and taken, with the power on and off; it is no stroke.
func TestHand(t *testing.T) {
	for _, off := range []bool{false, true} {
		d := made(t, 10, 2)
		fine(t, d.Create("a"), d.Append("a", []byte{1, 2}), d.Sync("a"), d.Append("a", []byte{3}))
		d.Plan(api.Plan{Strokes: []api.Fault{{At: 1, Kind: api.FaultIO}, {At: 2, Kind: api.FaultOff}}})
		d.SyncNames()
		if off {
			d.SyncNames()
		}
		was := d.Strokes()
		fine(t, d.Hand("m", []byte{7, 8}))
		is(t, "P3.9, the names are synced", pending(d), "0[1 0]")
		is(t, "P3.9", show(d.Files()), files(file("a", 1, 2, 3), file("m", 7, 8)))
		is(t, "P3.9, what is pending is pending still", show(d.Safe()), files(file("a", 1, 2), file("m", 7, 8)))
		is(t, "P3.9", held(d), "5 of 2")
		fine(t, d.Hand("a", []byte{9}))
		is(t, "P3.9, the old file is gone", held(d), "3 of 2")
		is(t, "P3.9", pending(d), "0[0 0]")
		is(t, "P3.9", show(d.Safe()), files(file("a", 9), file("m", 7, 8)))
		is(t, "P3.9", fmt.Sprint(d.Off(), d.Strokes(), d.Reads()), fmt.Sprint(off, was, 0))
		is(t, "P3.9", show(d.Crash(api.Picks{Names: 5, Files: []api.Pick{{Lost: []int{0}}, {Done: 1, Lost: []int{0}}}})), files(file("a", 9), file("m", 7, 8)))
	}
}

// P3.9: each error of Hand, in its order, reckoned as if the names were synced and that name's file gone.
func TestHandErrors(t *testing.T) {
	d := made(t, 10, 2)
	fine(t, d.Create("a"), d.Append("a", of(1, 6)), d.Create("b"), d.Append("b", of(2, 3)), d.SyncNames(), d.Truncate("a", 1))
	hand := func(name string, n int) func() api.Errno {
		return func() api.Errno { return d.Hand(name, of(9, n)) }
	}
	for _, c := range []struct {
		name string
		n    int
		want api.Errno
	}{
		{"", 0, api.ErrName}, {"a b", 99, api.ErrName}, {strings.Repeat("x", 41), 0, api.ErrName},
		{"c", 0, api.ErrFiles}, {"c", 99, api.ErrFiles},
		{"b", 5, api.ErrFull}, {"a", 8, api.ErrFull}, {"a", 99, api.ErrFull},
	} {
		refused(t, fmt.Sprint("P3.9, ", c.name, " ", c.n), d, hand(c.name, c.n), c.want, 0, 0)
	}
	fine(t, d.Remove("a"))
	refused(t, "P3.9", d, hand("c", 8), api.ErrFull, 0, 0)
	refused(t, "P3.9, a stroke would not have the room", d, func() api.Errno { return d.Create("c") }, api.ErrFiles, 1, 0)
	fine(t, d.Hand("c", of(9, 7)))
	is(t, "P3.9", held(d), "10 of 2")
	is(t, "P3.9", show(d.Safe()), files(file("b"), file("c", of(9, 7)...)))
	fine(t, d.Hand("b", of(8, 3)), d.Rename("b", "c"))
	fine(t, d.Hand("d", of(7, 7)))
	is(t, "P3.9, behind a Rename over it", show(d.Safe()), files(file("c", 8, 8, 8), file("d", of(7, 7)...)))
	zero := made(t, 10, 0)
	is(t, "P3.9", zero.Hand("a", nil), api.ErrFiles)
}

// P3.10: no question is counted or changes anything, with the power on and off.
func TestQuestions(t *testing.T) {
	d := made(t, 100, 4)
	fine(t, d.Create("b"), d.Append("b", []byte{1}), d.Create("a"), d.SyncNames(), d.Sync("b"), d.Append("b", []byte{2}), d.Rename("a", "c"))
	d.Read("b")
	want := "files " + files(file("b", 1, 2), file("c")) + " safe " + files(file("a"), file("b", 1)) +
		" pending 1 [1 0] held 2 2 off false strokes 7 reads 1 list [\"b\" \"c\"] 0"
	for range 3 {
		is(t, "P3.10", ask(d), want)
	}
	d.Plan(api.Plan{Strokes: []api.Fault{{At: 1, Kind: api.FaultOff}}})
	d.Sync("b")
	want = "files " + files(file("b", 1, 2), file("c")) + " safe " + files(file("a"), file("b", 1)) +
		" pending 1 [1 0] held 2 2 off true strokes 1 reads 0 list [] " + fmt.Sprint(int(api.ErrOff))
	for range 3 {
		is(t, "P3.10, the power off", ask(d), want)
	}
}

// P3.11, W8: of a nil Disk.
func TestNilDisk(t *testing.T) {
	var d *disk.Disk
	for call, e := range named(d, "a") {
		is(t, "P3.11, "+call, e, api.ErrArg)
	}
	for call, e := range named(d, "") {
		is(t, "P3.11, of no name, "+call, e, api.ErrArg)
	}
	is(t, "P3.11", d.SyncNames(), api.ErrArg)
	p, e := d.Read("a")
	l, g := d.List()
	is(t, "P3.11", fmt.Sprint(p == nil, l == nil, e == api.ErrArg, g == api.ErrArg), "true true true true")
	d.Plan(api.Plan{Strokes: []api.Fault{{At: 1, Kind: api.FaultOff}}})
	told := d.Crash(api.Picks{Names: 1, Files: []api.Pick{{Done: 1, Lost: []int{0}}}})
	names, files := d.Pending()
	b, n := d.Held()
	is(t, "P3.11", fmt.Sprint(len(told), len(d.Files()), len(d.Safe()), names, len(files), b, n, d.Off(), d.Strokes(), d.Reads()), "0 0 0 0 0 0 0 false 0 0")
}

// busy is a disk with something of each kind pending.
func busy(t *testing.T) *disk.Disk {
	t.Helper()
	d := made(t, 200, 5)
	fine(t, d.Hand("a", of(1, 40)), d.Hand("b", of(2, 20)), d.Create("c"), d.Append("c", of(3, 30)), d.Sync("c"))
	fine(t, d.Append("a", of(4, 20)), d.Truncate("a", 10), d.Append("a", of(5, 30)), d.Rename("a", "b"), d.Create("a"), d.Append("a", of(6, 5)), d.Remove("c"))
	return d
}

// P3.12, P3.13: whatever a crash picks: no more is held than ahead of it, and the names are the safe ones with a first part done.
func TestCrashHoldsNoMore(t *testing.T) {
	wantNames := []string{"a b", "a b c", "b c", "a b c", "a b"}
	for names := range 5 {
		for done := range 4 {
			for lost := range 4 {
				d := busy(t)
				was, wasFiles := d.Held()
				pick := api.Pick{Done: done, Lost: []int{lost}}
				told := d.Crash(api.Picks{Names: names, Files: []api.Pick{pick, pick, pick, pick}})
				now, nowFiles := d.Held()
				if now > was || nowFiles > wasFiles {
					t.Errorf("P3.12: %d, %d of %d, %d", now, nowFiles, was, wasFiles)
				}
				l, _ := d.List()
				is(t, "P3.13", strings.Join(l, " "), wantNames[names])
				for i, f := range d.Files() {
					is(t, "P3.13", fmt.Sprint(f.Name, len(f.Data)), fmt.Sprint(told[i].Name, len(told[i].Data)))
				}
			}
		}
	}
}

// P3.13: a crash of zero Picks leaves what Safe tells, and a second one changes nothing.
func TestCrashOfZeroPicks(t *testing.T) {
	for _, first := range []api.Picks{{}, {Names: 2, Files: []api.Pick{{Done: 3, Lost: []int{1}}, {Lost: []int{0}}}}} {
		d := busy(t)
		safe := show(d.Safe())
		told := show(d.Crash(first))
		if first.Files == nil {
			is(t, "P3.13", told, safe)
			is(t, "P3.13", show(d.Files()), safe)
		}
		was := ask(d)
		is(t, "P3.13, the second", show(d.Crash(api.Picks{})), show(d.Files()))
		is(t, "P3.13, the second", ask(d), was)
	}
}

// P3.13: what was synced is changed by no crash.
func TestSyncedStays(t *testing.T) {
	for v := -3; v < 5; v++ {
		d := busy(t)
		pick := api.Pick{Done: v, Lost: []int{0, 1, 2, v}}
		picks := api.Picks{Names: v, Files: []api.Pick{pick, pick, pick, pick}}
		fine(t, d.Sync("a"), d.Sync("b"), d.SyncNames())
		is(t, "P3.13", show(d.Safe()), show(d.Files()))
		is(t, "P3.13", pending(d), "0[0 0]")
		was := show(d.Files())
		is(t, "P3.13", show(d.Crash(picks)), was)
		is(t, "P3.13", show(d.Files()), was)
		fine(t, d.Append("a", []byte{1}), d.Rename("a", "e"))
		d.Crash(picks)
		for _, f := range d.Files() {
			if f.Name == "b" {
				is(t, "P3.13, a file of which nothing was pending", show([]api.FileBytes{f}), was[strings.Index(was, `"b"`):])
			}
		}
	}
}

// P3.13: a long file that is synced often, cut and led on between.
func TestSyncOften(t *testing.T) {
	d := made(t, api.MaxRoom, 1)
	fine(t, d.Hand("a", of(1, 1<<21)))
	want := of(1, 1<<21)
	for i := range 20000 {
		if i%3 == 0 {
			want = want[:len(want)-5]
			fine(t, d.Truncate("a", len(want)))
		}
		p := of(byte(i), i%7)
		want = append(want, p...)
		fine(t, d.Append("a", p), d.Sync("a"))
	}
	d.Crash(api.Picks{Files: []api.Pick{{Done: 3, Lost: []int{0, 1, 2, -1}}}})
	if p, _ := d.Read("a"); !bytes.Equal(p, want) {
		t.Error("P3.13: what was synced is not there")
	}
	is(t, "P3.4", held(d), fmt.Sprint(len(want), " of 1"))
}

// P3.14: a Read answers all that was written, in its order, whatever was refused between.
func TestReadAllWritten(t *testing.T) {
	d := made(t, 300, 2)
	fine(t, d.Create("a"))
	d.Plan(api.Plan{Strokes: []api.Fault{{At: 3, Kind: api.FaultIO}, {At: 7, Kind: api.FaultFull}, {At: 20, Kind: api.FaultIO}}, Reads: []api.Fault{{At: 5, Kind: api.FaultIO}}})
	var want []byte
	for i := range 40 {
		p := of(byte(i), i%20)
		if d.Append("a", p) == api.OK {
			want = append(want, p...)
		}
		if i%4 == 0 {
			d.Sync("a")
		}
		if p, e := d.Read("a"); e == api.OK && !bytes.Equal(p, want) {
			t.Fatalf("P3.14: %v, not %v", p, want)
		}
	}
	if len(want) < 200 || len(want) > 300 {
		t.Error("P3.14: ", len(want))
	}
}

// spoil writes over bytes and over the room behind their end.
func spoil(p []byte) {
	p = p[:cap(p)]
	for i := range p {
		p[i] ^= 0xff
	}
}

// spoilFiles writes over all that is answered.
func spoilFiles(l []api.FileBytes) {
	for i := range l {
		spoil(l[i].Data)
	}
	clear(l[:cap(l)])
}

// P3.15, W6: what is handed in is not changed, with the room behind its end, and not kept.
func TestHandedIn(t *testing.T) {
	d := made(t, 200, 4)
	buffer := of(7, 64)
	fine(t, d.Create("a"), d.SyncNames())
	is(t, "P3.15", d.Append("a", buffer[8:20]), api.OK)
	is(t, "P3.15", d.Hand("h", buffer[:5]), api.OK)
	is(t, "P3.15, not changed", bytes.Equal(buffer, of(7, 64)), true)
	spoil(buffer)
	want := files(file("a", of(7, 12)...), file("h", of(7, 5)...))
	is(t, "P3.15, not kept", show(d.Files()), want)

	strokes, reads := []api.Fault{{At: 1, Kind: api.FaultIO}, {At: 9, Kind: 0}}, []api.Fault{{At: 1, Kind: api.FaultFull}}
	d.Plan(api.Plan{Strokes: strokes[:1], Reads: reads})
	is(t, "P3.15, not changed", fmt.Sprint(strokes, reads), "[{1 2} {9 0}] [{1 3}]")
	clear(strokes)
	clear(reads)
	_, e := d.Read("a")
	is(t, "P3.15, the plan is its own", []api.Errno{d.Sync("a"), e}, []api.Errno{api.ErrIO, api.ErrFull})

	lost := []int{0, 5, 9}
	picks := []api.Pick{{Done: 1, Lost: lost[:2]}, {Done: -4}}
	is(t, "P3.15", show(d.Crash(api.Picks{Names: 3, Files: picks[:1]})), want)
	is(t, "P3.15, not changed", fmt.Sprint(lost, picks), "[0 5 9] [{1 [0 5]} {-4 []}]")
	is(t, "P3.15", show(d.Files()), files(file("a", of(0, 12)...), file("h", of(7, 5)...)))
}

// P3.15, W6: what is answered is new memory, each time, the room behind its end too.
func TestAnswers(t *testing.T) {
	d := busy(t)
	was := ask(d)
	for range 2 {
		spoilFiles(d.Files())
		spoilFiles(d.Safe())
		p, _ := d.Read("b")
		spoil(p)
		l, _ := d.List()
		clear(l[:cap(l)])
		_, n := d.Pending()
		clear(n[:cap(n)])
		is(t, "P3.15", strings.Replace(ask(d), " reads "+fmt.Sprint(d.Reads()), " reads 0", 1), was)
	}
	is(t, "P3.15, the pending changes too", show(d.Crash(api.Picks{Names: 1, Files: []api.Pick{{Done: 1}}})),
		files(file("a", append(of(1, 40), of(4, 20)...)...), file("b", of(2, 20)...), file("c", of(3, 30)...)))
	told := d.Crash(api.Picks{})
	was = ask(d)
	spoilFiles(told)
	is(t, "P3.15, Crash", ask(d), was)
}

// P3.15, W6: no two files of one answer share memory, nor two answers.
func TestAnswersApart(t *testing.T) {
	d := busy(t)
	one, two, safe := d.Files(), d.Files(), d.Safe()
	fine(t, d.Sync("a"), d.Sync("b"))
	after, crashed := d.Safe(), d.Crash(api.Picks{Names: 1})
	var rows [][]byte
	for _, l := range [][]api.FileBytes{one, two, safe, after, crashed, d.Files(), d.Safe()} {
		for _, f := range l {
			rows = append(rows, f.Data[:cap(f.Data)])
		}
	}
	for i, p := range rows {
		before := slices.Clone(p)
		for j, q := range rows {
			if i != j {
				spoil(q)
			}
		}
		if !bytes.Equal(p, before) {
			t.Fatal("P3.15: rows share memory")
		}
	}
}

// W6: bytes that were handed in are let go as soon as their owner lets them go.
func TestNotKept(t *testing.T) {
	d := made(t, api.MaxRoom, 2)
	// A goroutine of their own, so that no stack of this one holds them any more.
	told := make(chan weak.Pointer[[1 << 16]byte])
	go func() {
		defer close(told)
		p := new([1 << 16]byte)
		fine(t, d.Create("a"), d.Append("a", p[:]), d.Hand("b", p[:]))
		told <- weak.Make(p)
	}()
	seen := <-told
	for range 10 {
		runtime.GC()
		if seen.Value() == nil {
			is(t, "W6", held(d), "131072 of 2")
			return
		}
	}
	t.Error("W6: the bytes are kept")
}

// W6: a name that is a piece of a long text does not keep that text.
func TestNamesNotKept(t *testing.T) {
	d := made(t, 0, 2)
	told := make(chan uint64)
	go func() {
		defer close(told)
		text := strings.Repeat("n", 1<<26)
		fine(t, d.Hand(text[:4], nil), d.Create(text[:1]), d.Rename(text[:1], text[1:3]), d.Rename(text[:2], text[:3]), d.Remove(text[:3]))
		told <- uint64(len(text))
	}()
	length := <-told
	var memory runtime.MemStats
	for range 10 {
		runtime.GC()
		runtime.ReadMemStats(&memory)
		if memory.HeapAlloc < length {
			is(t, "W6", pending(d), "4[0 0]")
			return
		}
	}
	t.Errorf("W6: %d bytes are kept", memory.HeapAlloc)
}

// P3.15, W6: the names that are answered are new memory too: of no two answers, and not what the disk keeps.
func TestNamesApart(t *testing.T) {
	d := made(t, 100, 9)
	fine(t, d.Create("first"), d.Create("second"), d.SyncNames(), d.Rename("second", "third"), d.Hand("fourth", nil), d.Create("fifth"))
	want := "fifth first fourth third"
	for range 2 {
		names, e := d.List()
		fine(t, e)
		for _, l := range [][]api.FileBytes{d.Files(), d.Safe()} {
			for _, f := range l {
				names = append(names, f.Name)
			}
		}
		is(t, "P3.15", strings.Join(names, " "), want+" "+want+" first fourth third")
		for _, name := range names {
			row := unsafe.Slice(unsafe.StringData(name), len(name))
			clear(row)
		}
	}
	for _, f := range d.Crash(api.Picks{Names: 1}) {
		clear(unsafe.Slice(unsafe.StringData(f.Name), len(f.Name)))
	}
	is(t, "P3.15, Crash", list(d), want+", 0")
}

// P3.15, W2: two disks in turns don't touch each other.
func TestTwoDisks(t *testing.T) {
	alone := busy(t)
	d, other := made(t, 200, 5), made(t, 200, 5)
	turn := func(name string, calls ...func(*disk.Disk) api.Errno) {
		for _, call := range calls {
			if e := call(d); e != api.OK {
				t.Fatal(e)
			}
			other.Create(name)
			other.Append(name, of(9, 3))
			other.Plan(api.Plan{Strokes: []api.Fault{{At: 2, Kind: api.FaultOff}}})
			other.SyncNames()
			other.Sync(name)
			other.Crash(api.Picks{Names: 1, Files: []api.Pick{{Done: 1, Lost: []int{0}}}})
		}
	}
	turn("a",
		func(d *disk.Disk) api.Errno { return d.Hand("a", of(1, 40)) },
		func(d *disk.Disk) api.Errno { return d.Hand("b", of(2, 20)) },
		func(d *disk.Disk) api.Errno { return d.Create("c") },
		func(d *disk.Disk) api.Errno { return d.Append("c", of(3, 30)) },
		func(d *disk.Disk) api.Errno { return d.Sync("c") },
		func(d *disk.Disk) api.Errno { return d.Append("a", of(4, 20)) },
		func(d *disk.Disk) api.Errno { return d.Truncate("a", 10) })
	turn("b",
		func(d *disk.Disk) api.Errno { return d.Append("a", of(5, 30)) },
		func(d *disk.Disk) api.Errno { return d.Rename("a", "b") },
		func(d *disk.Disk) api.Errno { return d.Create("a") },
		func(d *disk.Disk) api.Errno { return d.Append("a", of(6, 5)) },
		func(d *disk.Disk) api.Errno { return d.Remove("c") })
	is(t, "P3.15", ask(d), ask(alone))
	is(t, "P3.15", strings.Contains(list(other), "c"), false)
}
