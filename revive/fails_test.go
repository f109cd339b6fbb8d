package revive_test

import (
	"fmt"
	"testing"

	"treadle/api"
	"treadle/disk"
)

// scene is a directory, with the files that an opening reads, in their order, and how many strokes it does.
type scene struct {
	what    string
	files   dir
	reads   []string
	strokes int
}

func scenes() []scene {
	log := dir{seg(1, 1, 1), seg(3, 1), seg(4, 1, 2)}
	torn := log.more(logName(4), 1, 2, 3)
	late := dir{man(of(2, 9, 3, 5, 1)), ck(9, 3), ck(5, 1)}
	return []scene{
		{"empty", dir{}, nil, 1},
		{"a log", log, []string{logName(1), logName(3), logName(4)}, 2},
		{"a torn log", torn, []string{logName(1), logName(3), logName(4)}, 3},
		{"an empty segment", dir{seg(1)}, []string{logName(1)}, 2},
		{"no whole frame", dir{file(logName(1), []byte{9, 0, 0, 0, 1, 2, 3, 4})}, []string{logName(1)}, 3},
		{"a checkpoint alone", marked(3), []string{"manifest", ckptName(4)}, 1},
		{"a checkpoint and a log", late.with(log...), []string{"manifest", ckptName(9), logName(4)}, 2},
		{"a checkpoint and a torn log", late.with(torn...), []string{"manifest", ckptName(9), logName(4)}, 3},
		{"the one ahead", late.with(torn...).cut(ckptName(9), 1), []string{"manifest", ckptName(9), ckptName(5), logName(1), logName(3), logName(4)}, 3},
		{"the one ahead alone", late.with(log...).without(ckptName(9)), []string{"manifest", ckptName(5), logName(1), logName(3), logName(4)}, 2},
	}
}

// planned opens a directory with a plan.
func (c scene) planned(t testing.TB, why string, p api.Plan) (api.Errno, *disk.Disk) {
	t.Helper()
	_, e, d := agrees(t, why, func() *disk.Disk {
		d := c.files.disk(t)
		d.Plan(p)
		return d
	}, 2)
	return e, d
}

// P17.2: the readings are those of the scene, each file once, in that order: each of them fails in turn, in each way, and
// of each two of them one is spoilt so that the directory does not fit together, and one fails: the one that comes first is told.
func TestReadings(t *testing.T) {
	for _, c := range scenes() {
		e, d := c.planned(t, c.what, api.Plan{})
		if e != api.OK || d.Reads() != len(c.reads) || d.Strokes() != c.strokes {
			t.Errorf("P17.2: %s: %v, %d readings, %d strokes, not %d, %d", c.what, e, d.Reads(), d.Strokes(), len(c.reads), c.strokes)
		}
		for k := 1; k <= len(c.reads)+1; k++ {
			for _, f := range faults() {
				why := fmt.Sprintf("P17.2: %s: reading %d, fault %d", c.what, k, f.kind)
				e, d := c.planned(t, why, readFails(k, f.kind))
				if k > len(c.reads) {
					if e != api.OK {
						t.Errorf("%s: %v", why, e)
					}
					continue
				}
				if e != f.e || d.Reads() != k || d.Strokes() != 0 || d.Off() != (f.kind == api.FaultOff) {
					t.Errorf("%s: %v, %d readings, %d strokes, off %v", why, e, d.Reads(), d.Strokes(), d.Off())
				}
			}
		}
		for i := range c.reads {
			c.spoiltAt(t, i)
		}
	}
}

// spoiltAt spoils a file that is read, so that the opening ends there with ErrDamage, and lets each reading fail in turn.
func (c scene) spoiltAt(t testing.TB, i int) {
	t.Helper()
	name := c.reads[i]
	isCkpt := name == ckptName(9) || name == ckptName(5) || name == ckptName(4)
	if isCkpt && i+1 < len(c.reads) && c.reads[i+1] == ckptName(5) {
		return // the one ahead is taken then
	}
	if i == len(c.reads)-1 && !isCkpt {
		return // the last segment may be torn
	}
	c.files = c.files.cut(name, 1)
	if name == ckptName(9) {
		c.files = c.files.without(ckptName(5)) // so that none fits
	}
	for k := 0; k <= len(c.reads); k++ {
		e, d := c.planned(t, "P17.2", readFails(k, api.FaultIO))
		want, reads := api.ErrDamage, i+1
		if k > 0 && k <= i+1 {
			want, reads = api.ErrIO, k
		}
		if e != want || d.Reads() != reads || d.Strokes() != 0 {
			t.Errorf("P17.2: %s: %s is spoilt, reading %d fails: %v, %d readings, %d strokes, not %v, %d", c.what, name, k, e, d.Reads(), d.Strokes(), want, reads)
		}
	}
}

// P17.1, 5: a segment is read ahead of its number being looked at; what was found ahead of it comes first.
func TestReadAheadOfNumber(t *testing.T) {
	for _, x := range []dir{{seg(1, 2), seg(4, 1), seg(5, 1)}, {seg(1), seg(2, 1), seg(3, 1)}} {
		c := scene{"a gap", x, nil, 0}
		for k, want := range []struct {
			e     api.Errno
			reads int
		}{{api.ErrDamage, 2}, {api.ErrIO, 1}, {api.ErrIO, 2}, {api.ErrDamage, 2}} {
			if e, d := c.planned(t, "P17.1", readFails(k, api.FaultIO)); e != want.e || d.Reads() != want.reads {
				t.Errorf("P17.1: a gap, reading %d fails: %v, %d readings, not %v", k, e, d.Reads(), want)
			}
		}
	}
	// A batch over the base, and torn bytes ahead of the last segment: the next one is not read any more.
	for _, x := range []dir{marked(5).with(seg(4, 3), seg(7, 1)), marked(5).with(seg(4, 2), seg(6, 1)).more(logName(6), 9).with(seg(7, 1))} {
		c := scene{"no further", x, nil, 0}
		if e, d := c.planned(t, "P17.1", readFails(4, api.FaultIO)); e != api.ErrDamage || d.Reads() != 3 {
			t.Errorf("P17.1: %v, %d readings", e, d.Reads())
		}
	}
}

// P17.1, W4: where several steps would fail the first one tells, and what comes behind it is not read.
func TestFirstStepTells(t *testing.T) {
	all := dir{file("manifest", nil), file(ckptName(9), nil), seg(7, 1), file(logName(8), []byte{1})}
	all.damaged(t, 1)                                        // 2: no manifest
	all.with(man(of(1, 9, 5, 0, 0))).damaged(t, 2)           // 3: none fits
	all.with(man(of(1, 9, 5, 0, 0)), ck(9, 5)).damaged(t, 2) // 4: none is needed
	all.with(man(of(1, 9, 8, 0, 0)), ck(9, 8)).damaged(t, 3) // 6: below the base, and torn
	late := all.with(man(of(1, 9, 6, 0, 0)), ck(9, 6))       // the last one is torn
	late.with(file(logName(7), []byte{1})).damaged(t, 3)     // 5: torn, ahead of the last one
	late.with(seg(7, 2)).damaged(t, 4)                       // 5: a gap, though behind it is torn
	late.found(t, api.Opened{Base: 6, Last: 7, Replayed: 1, Torn: 1}, 4, 3, stamped(6, 9).from(7, 7))
	for k, want := range []api.Errno{api.ErrDamage, api.ErrOff, api.ErrDamage} {
		if e, _ := (scene{"", all, nil, 0}).planned(t, "W4", readFails(k, api.FaultOff)); e != want {
			t.Errorf("W4: reading %d fails: %v, not %v", k, e, want)
		}
	}
}

// P17.2: each stroke fails in turn, in each way: no State, its error; those ahead of it are done, and no other.
func TestStrokesFail(t *testing.T) {
	for _, c := range scenes() {
		for k := 1; k <= c.strokes+1; k++ {
			for _, f := range faults() {
				why := fmt.Sprintf("P17.2: %s: stroke %d, fault %d", c.what, k, f.kind)
				e, d := c.planned(t, why, strokeFails(k, f.kind))
				want, count := f.e, k
				if k > c.strokes {
					want, count = api.OK, c.strokes
				}
				if e != want || d.Strokes() != count || d.Reads() != len(c.reads) {
					t.Errorf("%s: %v, %d strokes, %d readings, not %v, %d, %d", why, e, d.Strokes(), d.Reads(), want, count, len(c.reads))
				}
			}
		}
	}
}

// P17.2, W3: with ErrDamage there is no stroke: a plan that fails at the first one changes nothing.
func TestDamageWithoutStroke(t *testing.T) {
	torn := seg(4, 1)
	torn.Data = append(torn.Data, 1, 2, 3)
	for _, x := range []dir{
		{file("manifest", nil)},
		marked(5).without(ckptName(4)),
		{seg(2, 1)},
		{seg(1, 1), torn},
		{seg(1, 3), torn, seg(5, 1)},
		marked(5).with(torn),
		marked(5).with(seg(4, 3)),
	} {
		c := scene{"damage", x, nil, 0}
		if e, d := c.planned(t, "P17.2", strokeFails(1, api.FaultOff)); e != api.ErrDamage || d.Strokes() != 0 || d.Off() {
			t.Errorf("P17.2: %s: %v, %d strokes", x.words(), e, d.Strokes())
		}
	}
}

// W3: no room and no further file: an opening needs neither.
func TestFullDisk(t *testing.T) {
	for _, c := range scenes() {
		bytes := 0
		for _, f := range c.files {
			bytes += len(f.Data)
		}
		_, e, d := agrees(t, c.what, func() *disk.Disk {
			d, _ := disk.New(bytes, len(c.files))
			for _, f := range c.files {
				if e := d.Hand(f.Name, f.Data); e != api.OK {
					t.Fatal(e)
				}
			}
			return d
		}, 1)
		if e != api.OK || d.Strokes() != c.strokes {
			t.Errorf("P17.1: a full disk: %s: %v", c.what, e)
		}
	}
}
