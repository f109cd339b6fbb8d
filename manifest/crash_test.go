package manifest_test

import (
	"bytes"
	"math/rand"
	"slices"
	"testing"

	"treadle/api"
	"treadle/disk"
	"treadle/frame"
	"treadle/manifest"
)

// forges tells whether a crash has forged: a file's whole frames are not the beginning of what was told of it.
func forges(d *disk.Disk, told []api.FileBytes) bool {
	for _, f := range d.Files() {
		row, _ := bytesOf(told, f.Name)
		if !bytes.HasPrefix(row, f.Data[:frame.Whole(f.Data)]) {
			return true
		}
	}
	return false
}

// somePicks is picks of all kinds for a disk with so many names pending, and so many files.
func somePicks(names, files int) []api.Picks {
	losts := [][]int{nil, {0}, {1}, {2}, {-1}, {0, 1}, {0, 1, 2, 3}}
	var out []api.Picks
	for n := range names + 1 {
		out = append(out, api.Picks{Names: n})
		for _, done := range []int{0, 1, 2, -1} {
			for _, lost := range losts {
				out = append(out, api.Picks{Names: n, Files: slices.Repeat([]api.Pick{{Done: done, Lost: lost}}, files)})
			}
		}
	}
	return out
}

// safeScenes is the scenes in which the file of Name and its name are safe: all of them, as Name is handed or not there.
func safeScenes(t *testing.T) []scene {
	t.Helper()
	for _, s := range scenes() {
		now, is := bytesOf(s.build(t).Files(), "manifest")
		safe, was := bytesOf(s.build(t).Safe(), "manifest")
		if is != was || !bytes.Equal(now, safe) {
			t.Fatalf("%s: Name is not safe", s.what)
		}
	}
	return scenes()
}

// P15.6: each stroke fails, or the power goes off at it, and all crashes behind that: Name is what it was, or m; by what Install has answered just one of them.
func TestCrashAtEachStroke(t *testing.T) {
	m := example()
	forged, old, fresh := 0, 0, 0
	for _, s := range safeScenes(t) {
		was, had := bytesOf(s.build(t).Files(), "manifest")
		for k := 1; k <= s.strokes+1; k++ {
			for _, f := range faults() {
				d := s.build(t)
				d.Plan(failsAt(k, f.kind))
				manifest.Install(d, m)
				names, changes := d.Pending()
				for _, p := range somePicks(names, len(changes)) {
					d := s.build(t)
					d.Plan(failsAt(k, f.kind))
					is, e := manifest.Install(d, m)
					if is != (k >= s.strokes) || (e == api.OK) != (k > s.strokes) {
						t.Errorf("P15.4: %s, stroke %d: %v, %v", s.what, k, is, e)
					}
					if forges(d, d.Crash(p)) {
						forged++
						continue
					}
					b, there := bytesOf(d.Files(), "manifest")
					got, err := manifest.Decode(b)
					isOld := there == had && bytes.Equal(b, was)
					isNew := there && err == api.OK && got == m
					if is && !isNew && !isOld || !is && !isOld || e == api.OK && !isNew {
						t.Errorf("P15.6: %s, stroke %d, crash %v, behind %v, %v: Name: %v, %x", s.what, k, p, is, e, there, b)
					}
					if is && e != api.OK && isOld {
						old++
					}
					if is && e != api.OK && isNew {
						fresh++
					}
				}
			}
		}
	}
	if forged > 0 || old < 100 || fresh < 100 {
		t.Errorf("%d crashes forge; behind a SyncNames that failed %d bring the old one again, %d leave the new one", forged, old, fresh)
	}
}

// P15.6: behind an Install that answers OK a crash changes nothing of Name, whatever it picks, and however often.
func TestCrashBehindInstall(t *testing.T) {
	for _, s := range scenes() {
		for _, p := range somePicks(3, 6) {
			d := s.build(t)
			installs(t, d, example(), true, api.OK)
			for range 3 {
				d.Crash(p)
				says(t, d, example())
			}
		}
	}
}

// P15.6: the power goes off, a crash, and Install once more, till it goes through: New that a crash has left, torn or whole, is in no one's way.
func TestCrashAndAgain(t *testing.T) {
	left := 0
	for _, s := range safeScenes(t) {
		for k := 1; k <= s.strokes; k++ {
			for _, p := range somePicks(3, 5) {
				d := s.build(t)
				d.Plan(failsAt(k, api.FaultOff))
				manifest.Install(d, example())
				d.Crash(p)
				if _, is := bytesOf(d.Files(), "manifest.new"); is {
					left++
				}
				again := of([5]int{9, 9, 9, 8, 8})
				installs(t, d, again, true, api.OK)
				says(t, d, again)
				if _, is := bytesOf(d.Files(), "manifest.new"); is {
					t.Errorf("P15.4: New is left")
				}
			}
		}
	}
	if left < 100 {
		t.Errorf("New was left %d times", left)
	}
}

// P15.6: many Installs with faults and crashes: Name is the last one that was safe, or one whose name was not safe yet.
func TestCrashRandom(t *testing.T) {
	crashes, both := 0, 0
	for seed := range int64(2000) {
		r := rand.New(rand.NewSource(seed))
		d := newDisk(t, 1000, 20)
		may := []api.Manifest{{}} // what Name may say behind a crash; the zero one: there is none
		for range 15 {
			m := someManifest(r)
			if r.Intn(2) == 0 {
				d.Plan(failsAt(1+r.Intn(8), 1+r.Intn(3)))
			}
			switch is, e := manifest.Install(d, m); {
			case e == api.OK:
				may = []api.Manifest{m}
			case is:
				may = append(may, m)
			}
			if !d.Off() && r.Intn(3) > 0 {
				continue
			}
			files := make([]api.Pick, 6)
			for i := range files {
				files[i] = api.Pick{Done: r.Intn(3), Lost: []int{r.Intn(4), r.Intn(4)}[:r.Intn(3)]}
			}
			if forges(d, d.Crash(api.Picks{Names: r.Intn(20), Files: files})) {
				break
			}
			crashes++
			if len(may) > 1 {
				both++
			}
			b, is := bytesOf(d.Files(), "manifest")
			got, e := manifest.Decode(b)
			if is && e != api.OK || !is && got != (api.Manifest{}) || !slices.Contains(may, got) {
				t.Fatalf("P15.6: seed %d: Name says %v, %v, not one of %v", seed, got, e, may)
			}
			may = []api.Manifest{got}
		}
	}
	if crashes < 5000 || both < 500 {
		t.Errorf("%d crashes, %d with several that may be", crashes, both)
	}
}
