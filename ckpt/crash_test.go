package ckpt_test

import (
	"bytes"
	"fmt"
	"math/rand"
	"slices"
	"testing"

	"treadle/api"
	"treadle/ckpt"
	"treadle/disk"
	"treadle/frame"
	"treadle/manifest"
	"treadle/page"
)

// forges tells whether a crash has forged: a file's whole frames are not the beginning of what was told of it.
func forges(d *disk.Disk, told []api.FileBytes) bool {
	for _, f := range d.Files() {
		row, _ := bytesOf(told, f.Name)
		if !bytes.HasPrefix(row, f.Data[:frame.Whole(f.Data)]) {
			return true
		}
	}
	return false
}

// somePicks is picks of all kinds for a disk with so many names pending, and so many files.
func somePicks(names, files int) []api.Picks {
	losts := [][]int{nil, {0}, {1}, {-1}, {0, 1, 2, 3}}
	var out []api.Picks
	for n := range names + 1 {
		out = append(out, api.Picks{Names: n})
		for _, done := range []int{0, 1, 2, -1} {
			for _, lost := range losts {
				out = append(out, api.Picks{Names: n, Files: slices.Repeat([]api.Pick{{Done: done, Lost: lost}}, files)})
			}
		}
	}
	return out
}

// scene is what there is on a disk, all of it safe, when a checkpoint is begun.
type scene struct {
	what string
	was  api.Manifest
	has  bool
	s    map[int]state // by the checkpoints' numbers, what their files say
	left []api.FileBytes
}

func scenes() []scene {
	torn := file(slowName(8), []byte("of one that was dropped, or has failed"))
	return []scene{
		{"empty", none, false, nil, nil},
		{"others", none, false, nil, []api.FileBytes{torn, file("manifest.new", []byte{1, 2}), file("log-000000000001", []byte("a segment"))}},
		{"one", of(1, 3, 2, 0, 0), true, map[int]state{3: many(1, 2)}, nil},
		{"two", of(2, 6, 5, 3, 2), true, map[int]state{3: many(1, 2), 6: many(2, 1)}, nil},
		{"two and others", of(2, 6, 5, 3, 2), true, map[int]state{3: many(1, 2), 6: many(2, 1)}, []api.FileBytes{torn, file("manifest.new", slowManifest(of(3, 8, 6, 6, 5)))}},
	}
}

// build is the scene's disk, and stores with a state.
func (c scene) build(t testing.TB, s state) world {
	t.Helper()
	w := newWorld(t, s, c.left...)
	if !c.has {
		return w
	}
	w.d.Hand("manifest", slowManifest(c.was))
	w.d.Hand(slowName(c.was.File), fileOf(t, c.was.File, c.was.Mark, 2, c.s[c.was.File]))
	if c.was.Prev > 0 {
		w.d.Hand(slowName(c.was.Prev), fileOf(t, c.was.Prev, c.was.PrevMark, 2, c.s[c.was.Prev]))
	}
	return w
}

// counts is the manifest on a disk, and whether there is one; the checkpoint that it names is whole, and says that state.
func counts(t testing.TB, why string, d *disk.Disk, says map[int]state) (api.Manifest, bool) {
	t.Helper()
	b, is := bytesOf(d.Files(), "manifest")
	if !is {
		return none, false
	}
	m, e := manifest.Decode(b)
	if e != api.OK {
		t.Fatalf("P16.7: %s: the manifest is %x, %v", why, b, e)
	}
	b, _ = bytesOf(d.Files(), slowName(m.File))
	x, e := page.Read(b)
	if e != api.OK || x.Number != m.File || x.Mark != m.Mark {
		t.Fatalf("P16.7: %s: the checkpoint of %v: %v, %v", why, m, x, e)
	}
	sameState(t, "P16.7: "+why, state{x.Procs, x.Entries}, says[m.File])
	return m, true
}

// P16.7: each stroke of each Step fails, or the power goes off at it, or none does; and all crashes behind that.
func TestCrashAtEachStroke(t *testing.T) {
	forged, old, fresh := 0, 0, 0
	for _, c := range scenes() {
		for _, s := range []state{{}, example()} {
			for _, n := range []int{2, 128} {
				last := max(1, (s.size()+n-1)/n)
				for at := 1; at <= last; at++ {
					for k := 1; k <= 9; k++ {
						for _, f := range faults() {
							run := func() (world, api.Manifest, bool, api.Errno) {
								w := c.build(t, s)
								j := w.begin(t, c.was, c.has, 7, 128)
								for range at - 1 {
									j.Step(n)
								}
								w.d.Plan(failsAt(k, f.kind))
								m, is, e := j.Step(n)
								return w, m, is, e
							}
							w, _, _, _ := run()
							names, changes := w.d.Pending()
							for _, p := range somePicks(names, len(changes)) {
								w, m, is, e := run()
								if forges(w.d, w.d.Crash(p)) {
									forged++
									continue
								}
								why := fmt.Sprintf("%s, Step(%d) number %d, stroke %d, %v, crash %v", c.what, n, at, k, e, p)
								said := map[int]state{m.File: s}
								for number, x := range c.s {
									said[number] = x
								}
								got, has := counts(t, why, w.d, said)
								isOld := has == c.has && got == c.was
								isNew := is && has && got == m
								if !isOld && !isNew || is && e == api.OK && !isNew {
									t.Fatalf("P16.7: %s: the manifest is %v, %v", why, got, has)
								}
								if is && e != api.OK && isNew {
									fresh++
								}
								if is && e != api.OK && isOld {
									old++
								}
							}
						}
					}
				}
			}
		}
	}
	if forged > 0 || old < 100 || fresh < 100 {
		t.Errorf("%d crashes forge; behind a SyncNames that failed %d bring the old one again, %d leave the new one", forged, old, fresh)
	}
}

// P16.7: a crash behind a Begin, a Drop, or between the Steps: the manifest is the one that was.
func TestCrashBetween(t *testing.T) {
	for _, c := range scenes() {
		for count := range example().size() {
			for _, drop := range []bool{false, true} {
				run := func() world {
					w := c.build(t, example())
					j := w.begin(t, c.was, c.has, 7, 1)
					for range count {
						steps(t, j, 1, none, false, api.OK)
					}
					if drop {
						j.Drop()
					}
					return w
				}
				names, changes := run().d.Pending()
				for _, p := range somePicks(names, len(changes)) {
					w := run()
					w.d.Crash(p)
					if m, has := counts(t, c.what, w.d, c.s); m != c.was || has != c.has {
						t.Errorf("P16.7: %s: the manifest is %v, %v", c.what, m, has)
					}
				}
			}
		}
	}
}

// P16.5, P16.7: a Collect of what counts leaves it, at whatever stroke it fails, and whatever a crash picks then.
func TestCrashAtCollect(t *testing.T) {
	for _, c := range scenes() {
		for k := 1; k <= 5; k++ {
			for _, f := range faults() {
				run := func() world {
					w := c.build(t, example())
					w.d.Plan(failsAt(k, f.kind))
					ckpt.Collect(w.d, c.was, c.has)
					return w
				}
				names, changes := run().d.Pending()
				for _, p := range somePicks(names, len(changes)) {
					w := run()
					w.d.Crash(p)
					if m, has := counts(t, c.what, w.d, c.s); m != c.was || has != c.has {
						t.Errorf("P16.5: %s: the manifest is %v, %v", c.what, m, has)
					}
					if c.was.Prev > 0 {
						w.holds(t, slowName(c.was.Prev), fileOf(t, c.was.Prev, c.was.PrevMark, 2, c.s[c.was.Prev]))
					}
				}
			}
		}
	}
}

// life is a world in which checkpoints are written one after the other, with faults and crashes.
type life struct {
	t       *testing.T
	r       *rand.Rand
	w       world
	j       *ckpt.Job
	was     api.Manifest
	has     bool
	mark    int
	said    map[int]state  // what the checkpoints of these numbers say, if they are whole
	may     []api.Manifest // what may count behind a crash; the zero one: there is none
	crashes int
	several int
}

// act does one thing, and tells whether life goes on: not behind a crash that forges.
func (l *life) act() bool {
	switch r := l.r; r.Intn(10) {
	case 0, 1:
		someWrite(r)(l.w)
	case 2:
		l.w.d.Plan(failsAt(1+r.Intn(12), 1+r.Intn(3)))
	case 3, 4:
		l.begin()
	case 5:
		if !l.going() && ckpt.Collect(l.w.d, l.was, l.has) == api.OK {
			l.may = []api.Manifest{l.was}
		}
	case 6:
		if l.w.d.Off() || r.Intn(3) == 0 {
			return l.crash()
		}
	default:
		l.step()
	}
	return true
}

func (l *life) going() bool { return l.w.values.Marked() }

func (l *life) begin() {
	j, e := ckpt.Begin(l.w.d, l.w.values, l.w.procs, l.was, l.has, l.mark+1, 3)
	if e != api.OK {
		return
	}
	l.j = j
	l.mark++
	for _, f := range l.w.d.Files() {
		if n, is := slowNumber(f.Name); is && len(f.Data) == 0 {
			l.said[n] = l.w.now() // the one that was made just now is among those without a byte
		}
	}
}

func (l *life) step() {
	m, is, e := l.j.Step(1 + l.r.Intn(3))
	switch {
	case is && e == api.OK:
		l.may = []api.Manifest{m}
	case is:
		l.may = append(l.may, m)
	}
	if is {
		l.was, l.has = m, true
	}
}

func (l *life) crash() bool {
	l.j.Drop()
	if forges(l.w.d, l.w.d.Crash(somePicksOf(l.r))) {
		return false
	}
	l.crashes++
	if len(l.may) > 1 {
		l.several++
	}
	m, has := counts(l.t, "random", l.w.d, l.said)
	if !slices.Contains(l.may, m) {
		l.t.Fatalf("P16.7: the manifest is %v, not one of %v", m, l.may)
	}
	l.was, l.has, l.may = m, has, []api.Manifest{m}
	return true
}

// P16.7: many checkpoints, with faults, crashes and Collects: what counts is what was safe last, or what was not safe yet; and its file is whole.
func TestCrashRandom(t *testing.T) {
	crashes, several := 0, 0
	for seed := range int64(2000) {
		l := &life{t: t, r: rand.New(rand.NewSource(seed)), w: newWorld(t, state{}), said: map[int]state{}, may: []api.Manifest{none}}
		for range 80 {
			if !l.act() {
				break
			}
		}
		crashes, several = crashes+l.crashes, several+l.several
		if t.Failed() {
			t.Fatalf("seed %d", seed)
		}
	}
	if crashes < 5000 || several < 200 {
		t.Errorf("%d crashes, %d with several that may count", crashes, several)
	}
}
