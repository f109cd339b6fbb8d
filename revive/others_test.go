package revive_test

import (
	"bytes"
	"slices"
	"strings"
	"testing"

	"treadle/api"
	"treadle/disk"
	"treadle/revive"
)

// nearly is names that are nearly those of segments, checkpoints or the manifest, and those of checkpoints that no scene names.
func nearly() []string {
	return []string{
		"log-000000000000", "log-00000000000A", "log-00000000000g", "log-00000000001", "log-0000000000001", "log-0x0000000001", "log-+00000000001",
		"log-", "log", "LOG-000000000001", "Log-000000000001", "log_000000000001", "xlog-000000000001", "log-000000000001~", "log-000000000001.new",
		"-log000000000001", "000000000001",
		"ckpt-000000000000", "ckpt-000000000007", "ckpt-000000000001", "ckpt-ffffffffffff", "ckpt-00000000009", "ckpt-0000000000009", "Ckpt-000000000009",
		"ckpt-", "ckpt-4", "ckpt_000000000004", "ckpt-000000000004.new", "ckpt-00000000000G",
		"manifest.new", "Manifest", "MANIFEST", "manifest1", "manifes", "manifest.", "manifest.old", "xmanifest", "manifest-000000000001",
		"x", "!", "~", strings.Repeat("m", api.MaxFileName),
	}
}

// contents is what may stand in a file that is of no account.
func contents() [][]byte {
	return [][]byte{
		nil,
		{1, 2, 3},
		make([]byte, 64),
		rows(1, others, 1, 1, 1, 3),
		rows(4, others, 5),
		image(9, 3, stamped(3, 9)),
		image(7, 5, stamped(2, 7)),
		man(of(9, 7, 5, 1, 0)).Data,
		man(of(1, 4, 3, 0, 0)).Data,
	}
}

// P17.4: other files beside, of any bytes: the same answer, the same readings, the same strokes; and the same where a reading or a stroke fails.
func TestOtherFiles(t *testing.T) {
	damage := []scene{{"damage", dir{seg(2, 1)}, nil, 0}, {"a gap", dir{seg(1, 1), seg(3, 1)}, nil, 0}, {"no checkpoint", marked(3).without(ckptName(4)), nil, 0}}
	for _, c := range append(scenes(), damage...) {
		for _, data := range contents() {
			var beside dir
			for _, name := range nearly() {
				beside = append(beside, file(name, data))
			}
			for k := 0; k <= 7; k++ {
				plan := api.Plan{}
				if k > 0 {
					plan = readFails(k, api.FaultIO)
					plan.Strokes = strokeFails(k, api.FaultIO).Strokes
				}
				alone, with := c.files.disk(t), slices.Concat(beside, c.files).disk(t)
				alone.Plan(plan)
				with.Plan(plan)
				want, we := revive.Open(alone, 1)
				got, e := revive.Open(with, 1)
				if e != we || with.Reads() != alone.Reads() || with.Strokes() != alone.Strokes() || e == api.OK && !shownOf(got).same(shownOf(want)) {
					t.Fatalf("P17.4: %s: %v, %d readings, %d strokes, %+v; alone %v, %d, %d, %+v", c.what, e, with.Reads(), with.Strokes(), got, we, alone.Reads(), alone.Strokes(), want)
				}
				for _, f := range beside {
					if !bytes.Equal(dir(with.Files()).bytes(f.Name), data) {
						t.Fatalf("P17.4: %s has changed", f.Name)
					}
				}
			}
		}
	}
}

// P17.4: one other file alone, on a disk without anything else.
func TestOtherAlone(t *testing.T) {
	for _, name := range nearly() {
		for _, data := range contents() {
			segments(t, dir{file(name, data)}.found(t, api.Opened{}, 0, 1, at(0)))
		}
	}
	for n := 1; n < 10; n++ {
		dir{ck(n, n)}.found(t, api.Opened{}, 0, 1, at(0))
		dir{ck(n, n), seg(1, 2)}.found(t, api.Opened{Last: 2, Replayed: 2}, 1, 2, at(2))
	}
}

// P17.4: the checkpoints that the manifest does not name are of no account, though they are later, whole, and would fit.
func TestUnnamed(t *testing.T) {
	x := marked(3).with(seg(4, 2), ck(3, 2), ck(5, 4), ck(6, 5), ck(most, 5))
	want := api.Opened{Base: 3, Last: 5, Replayed: 2}
	x.found(t, want, 3, 2, stamped(3, 4).from(4, 5))
	x.with(file("manifest.new", man(of(2, 6, 5, 4, 3)).Data)).found(t, want, 3, 2, stamped(3, 4).from(4, 5))
	x.cut(ckptName(4), 1).damaged(t, 2)
	x.without(ckptName(4)).damaged(t, 1)
}

// P17.5: whole batches behind a torn place, of the right numbers too, do not come into the state, and are cut off.
func TestBehindTorn(t *testing.T) {
	for _, tear := range [][]byte{{0}, {1, 2, 3, 4, 5, 6, 7, 8, 9}, sealed([]byte("x")), rows(3, others, 1)[:9], rows(4, others, 1)} {
		for _, next := range []int{2, 3, 4} {
			tail := slices.Concat(tear, rows(next, others, 1, 1, 1))
			x := dir{file(logName(1), slices.Concat(rows(1, history, 1, 1), tail))}
			x.found(t, api.Opened{Last: 2, Replayed: 2, Torn: len(tail)}, 1, 3, at(2))
			d := x.disk(t)
			if _, e := revive.Open(d, 1); e != api.OK || !bytes.Equal(d.Safe()[0].Data, rows(1, history, 1, 1)) {
				t.Errorf("P17.5: %v, %x is left", e, d.Safe()[0].Data)
			}
		}
	}
	// A batch that comes a second time.
	again := slices.Concat(rows(1, history, 1, 1), rows(2, history, 1))
	dir{file(logName(1), again)}.found(t, api.Opened{Last: 2, Replayed: 2, Torn: len(again) - size(1, 1, 1)}, 1, 3, at(2))
}

// P17.5: batches at the base and below do not come into the state: there they say what the history does not.
func TestBelowNotRun(t *testing.T) {
	for base := 1; base < 6; base++ {
		want := api.Opened{Base: base, Last: base + 3, Replayed: 3}
		end := func() state { return stamped(base, 4).from(base+1, base+3) }
		ones := slices.Repeat([]int{1}, base)
		behind := rows(base+1, history, 1, 2)
		below := file(logName(1), rows(1, others, base))
		marked(base).with(file(logName(1), slices.Concat(below.Data, behind))).found(t, want, 3, 2, end())
		marked(base).with(file(logName(1), slices.Concat(rows(1, others, ones...), behind))).found(t, want, 3, 2, end())
		marked(base).with(below, file(logName(base+1), behind)).found(t, want, 3, 2, end())
		marked(base).with(below).found(t, api.Opened{Base: base, Last: base}, 3, 2, stamped(base, 4))
		// A segment that is not needed says more than up to the base.
		marked(base).with(file(logName(1), rows(1, others, base+3)), file(logName(base+1), behind)).found(t, want, 3, 2, end())
	}
}

// P17.5: nothing of a checkpoint that does not fit comes into the state, nor of the one ahead of one that does.
func TestUnfitNotIn(t *testing.T) {
	full := newState()
	for _, key := range []string{"a", "key 0", "other", "z"} {
		full.values[key] = text("of one that does not fit")
	}
	full.procs["fold"] = define("proc fold 2", "stop").Proc
	full.procs["made0"] = define("proc made0 0", "stop").Proc
	end := func() state { return stamped(3, 5).from(4, 8) }
	for _, data := range [][]byte{image(8, 6, full), image(9, 7, full), image(9, 5, full), append(image(9, 6, full), 0), image(9, 6, full)[:150]} {
		two().with(file(ckptName(9), data)).found(t, api.Opened{Base: 3, Last: 8, Replayed: 5}, 5, 2, end())
		two().with(file(ckptName(5), data)).found(t, api.Opened{Base: 6, Last: 8, Replayed: 2}, 3, 2, stamped(6, 9).from(7, 8))
		two().with(file(ckptName(9), data), file(ckptName(5), data)).damaged(t, 3)
	}
}

// P17.4: the answer does not hang on the order in which the files were made, nor on their being handed or written.
func TestHowMade(t *testing.T) {
	for _, c := range scenes() {
		back := slices.Clone(c.files)
		slices.Reverse(back)
		written := func() *disk.Disk {
			d, _ := disk.New(api.MaxRoom, api.MaxFiles)
			for _, f := range back {
				d.Create(f.Name + "_")
				for _, b := range f.Data {
					d.Append(f.Name+"_", []byte{b})
				}
				d.Rename(f.Name+"_", f.Name)
			}
			d.Plan(api.Plan{})
			return d
		}
		want, _, _ := agrees(t, c.what, func() *disk.Disk { return c.files.disk(t) }, 1)
		for _, build := range []func() *disk.Disk{written, func() *disk.Disk { return dir(back).disk(t) }} {
			got, e, d := agrees(t, c.what, build, 1)
			if e != api.OK || !shownOf(got).same(shownOf(want)) || d.Reads() != len(c.reads) || d.Strokes() != c.strokes {
				t.Errorf("P17.4: %s: %v, %+v", c.what, e, got)
			}
		}
	}
}
