package manifest_test

import (
	"bytes"
	"math"
	"math/rand"
	"slices"
	"testing"

	"treadle/api"
	"treadle/disk"
	"treadle/manifest"
)

// ahead is the manifest that was installed ahead of the one that is looked at.
func ahead() api.Manifest { return of([5]int{1, 3, 128, 0, 0}) }

// scene is a disk on which Install is asked for: how it comes to be, and how many strokes an Install has there.
type scene struct {
	what    string
	strokes int
	build   func(t testing.TB) *disk.Disk
}

// onlyFiles is a scene of files that are all safe.
func onlyFiles(what string, strokes int, files ...api.FileBytes) scene {
	return scene{what, strokes, func(t testing.TB) *disk.Disk { return newDisk(t, 1000, 10, files...) }}
}

func scenes() []scene {
	was := file("manifest", slowEncode(ahead()))
	left := file("manifest.new", slowEncode(of([5]int{7, 7, 7, 0, 0})))
	log := file("log-000000000001", []byte("a row of bytes that is longer than two sectors"))
	return []scene{
		onlyFiles("empty", 5),
		onlyFiles("Name", 5, was),
		onlyFiles("New", 6, left),
		onlyFiles("both", 6, was, left),
		onlyFiles("New first", 6, left, was),
		onlyFiles("New without a byte", 6, was, file("manifest.new", nil)),
		onlyFiles("New of other bytes", 6, was, file("manifest.new", []byte{1, 2, 3})),
		onlyFiles("Name of other bytes", 5, file("manifest", []byte("no manifest"))),
		onlyFiles("others", 5, log, file("manifest.ne", []byte{1}), file("manifest.new.", []byte{2}), file("Manifest", nil), file("ckpt-000000000003", []byte{3})),
		onlyFiles("both and others", 6, log, was, file("x", []byte{1}), left),
		{"New that is pending", 6, func(t testing.TB) *disk.Disk {
			d := newDisk(t, 1000, 10, was)
			done(t, d.Create("manifest.new"))
			done(t, d.Append("manifest.new", []byte("of an Install that failed")))
			return d
		}},
		{"New that is removed, and lives", 5, func(t testing.TB) *disk.Disk {
			d := newDisk(t, 1000, 10, was, left)
			done(t, d.Remove("manifest.new"))
			return d
		}},
		{"others that are pending", 5, func(t testing.TB) *disk.Disk {
			d := newDisk(t, 1000, 10, log, was, file("x", nil))
			done(t, d.Append(log.Name, []byte("more")))
			done(t, d.Create("y"))
			done(t, d.Rename("x", "z"))
			done(t, d.Append("z", []byte{9}))
			return d
		}},
	}
}

// pair is two disks to which the same things happen: Install on one, the chapter's words on the other.
type pair struct {
	t     testing.TB
	why   string
	d, by *disk.Disk
}

func paired(t testing.TB, s scene) *pair { return &pair{t, s.what, s.build(t), s.build(t)} }

func (p *pair) plan(x api.Plan) {
	p.d.Plan(x)
	p.by.Plan(x)
}

// install asks both, and holds the answers and the disks against each other.
func (p *pair) install(m api.Manifest) (bool, api.Errno) {
	p.t.Helper()
	is, e := manifest.Install(p.d, m)
	want, err := slowInstall(p.by, m)
	if is != want || e != err {
		p.t.Errorf("P15.4: %s: Install(%v): %v, %v, not %v, %v", p.why, m, is, e, want, err)
	}
	p.alike()
	return want, err
}

func (p *pair) alike() {
	p.t.Helper()
	sameSight(p.t, "P15.4: "+p.why, sightOf(p.d), sightOf(p.by))
}

func (p *pair) crash(x api.Picks) {
	p.t.Helper()
	p.d.Crash(x)
	p.by.Crash(x)
	p.alike()
}

// The chapter's examples of Install, in their order.
func TestInstallExamples(t *testing.T) {
	m := example()
	d := newDisk(t, 1000, 5)
	installs(t, d, m, true, api.OK)
	if d.Strokes() != 5 {
		t.Errorf("P15.4: %d strokes", d.Strokes())
	}
	says(t, d, m)
	d.Plan(api.Plan{})
	m.Number = 3
	installs(t, d, m, true, api.OK)
	if d.Strokes() != 5 {
		t.Errorf("P15.4: %d strokes", d.Strokes())
	}
	says(t, d, m)
	names(t, d, "manifest")
	d.Plan(failsAt(3, api.FaultIO))
	installs(t, d, example(), false, api.ErrIO)
	names(t, d, "manifest", "manifest.new")
	says(t, d, m)
	d.Plan(api.Plan{})
	installs(t, d, example(), true, api.OK)
	if d.Strokes() != 6 {
		t.Errorf("P15.4: %d strokes", d.Strokes())
	}
	says(t, d, example())
	d.Plan(failsAt(5, api.FaultIO))
	m.Number = 9
	installs(t, d, m, true, api.ErrIO)
	says(t, d, m)
	d.Crash(api.Picks{})
	says(t, d, example())
}

// P15.4: no disk, a manifest that may not be, both; and that they come ahead of all that the disk says.
func TestInstallRefused(t *testing.T) {
	installs(t, nil, example(), false, api.ErrArg)
	installs(t, nil, api.Manifest{}, false, api.ErrArg)
	for _, m := range refusedList() {
		installs(t, nil, m, false, api.ErrArg)
	}
	for _, s := range scenes() {
		for _, m := range refusedList() {
			d := s.build(t)
			was := sightOf(d)
			installs(t, d, m, false, api.ErrArg)
			sameSight(t, "P15.4: ErrArg", sightOf(d), was)
		}
		d := off(t, s)
		was := sightOf(d)
		installs(t, d, api.Manifest{}, false, api.ErrArg)
		installs(t, d, refusedList()[5], false, api.ErrArg)
		sameSight(t, "P15.4: ErrArg", sightOf(d), was)
	}
}

// off is a scene's disk, its power off.
func off(t testing.TB, s scene) *disk.Disk {
	t.Helper()
	d := s.build(t)
	d.Plan(failsAt(1, api.FaultOff))
	if e := d.SyncNames(); e != api.ErrOff || !d.Off() {
		t.Fatal(e)
	}
	return d
}

// P15.4: a disk that is off: the error of its List, and no stroke.
func TestInstallOff(t *testing.T) {
	for _, s := range scenes() {
		d := off(t, s)
		was := sightOf(d)
		for range 2 {
			installs(t, d, example(), false, api.ErrOff)
			sameSight(t, "P15.4: ErrOff", sightOf(d), was)
		}
		d.Crash(api.Picks{})
		installs(t, d, example(), true, api.OK)
		says(t, d, example())
	}
}

// P15.4: the strokes of each scene; no reading, whatever is planned for readings; all that is there afterwards is safe but other files.
func TestInstall(t *testing.T) {
	for _, s := range scenes() {
		for _, m := range takenList() {
			p := paired(t, s)
			p.plan(api.Plan{Reads: []api.Fault{{At: 1, Kind: api.FaultOff}, {At: 2, Kind: api.FaultIO}}})
			others := without(s.build(t).Files())
			if is, e := p.install(m); !is || e != api.OK || p.d.Strokes() != s.strokes || p.d.Reads() != 0 {
				t.Errorf("P15.4: %s: %v, %v, %d strokes, %d readings", s.what, is, e, p.d.Strokes(), p.d.Reads())
			}
			says(t, p.d, m)
			if _, is := bytesOf(p.d.Files(), "manifest.new"); is {
				t.Errorf("P15.4: %s: New is left", s.what)
			}
			if b, is := bytesOf(p.d.Safe(), "manifest"); !is || !bytes.Equal(b, slowEncode(m)) {
				t.Errorf("P15.4: %s: what is safe of Name is %x", s.what, b)
			}
			if n, _ := p.d.Pending(); n != 0 || !sameFiles(without(p.d.Files()), others) {
				t.Errorf("P15.4: %s: %d names are pending, or other files have changed", s.what, n)
			}
			p.plan(api.Plan{})
			if is, e := p.install(example()); !is || e != api.OK || p.d.Strokes() != 5 {
				t.Errorf("P15.4: %s, once more: %v, %v, %d strokes", s.what, is, e, p.d.Strokes())
			}
			says(t, p.d, example())
		}
	}
}

// without is the files but those of a manifest.
func without(files []api.FileBytes) []api.FileBytes {
	return slices.DeleteFunc(files, func(f api.FileBytes) bool { return f.Name == "manifest" || f.Name == "manifest.new" })
}

func sameFiles(a, b []api.FileBytes) bool {
	return slices.EqualFunc(a, b, func(a, b api.FileBytes) bool { return a.Name == b.Name && bytes.Equal(a.Data, b.Data) })
}

// P15.4: each stroke fails in turn, in each way; what is answered, what was done, and what there is behind it.
func TestInstallFails(t *testing.T) {
	for _, s := range scenes() {
		for k := 1; k <= s.strokes; k++ {
			for _, f := range faults() {
				p := paired(t, s)
				p.plan(failsAt(k, f.kind))
				is, e := p.install(example())
				if is != (k == s.strokes) || e != f.e || p.d.Strokes() != k || p.d.Off() != (f.kind == api.FaultOff) {
					t.Errorf("P15.4: %s, stroke %d: %v, %v; %d strokes", s.what, k, is, e, p.d.Strokes())
				}
				behindFailed(t, s, p.d, k)
				// Once more: while the power is off it is that; else, and behind a crash, it goes through.
				if f.kind == api.FaultOff {
					if is, e := p.install(example()); is || e != api.ErrOff || p.d.Strokes() != k {
						t.Errorf("P15.4: %s, stroke %d, once more: %v, %v", s.what, k, is, e)
					}
					p.crash(api.Picks{Names: -1})
				}
				p.plan(api.Plan{})
				if is, e := p.install(ahead()); !is || e != api.OK {
					t.Errorf("P15.4: %s, stroke %d, once more: %v, %v", s.what, k, is, e)
				}
				says(t, p.d, ahead())
				if _, is := bytesOf(p.d.Files(), "manifest.new"); is {
					t.Errorf("P15.4: %s: New is left", s.what)
				}
			}
		}
	}
}

// behindFailed asks which files there are when the stroke number k has failed.
func behindFailed(t testing.TB, s scene, d *disk.Disk, k int) {
	t.Helper()
	name, hasName := bytesOf(s.build(t).Files(), "manifest")
	left, hasNew := bytesOf(s.build(t).Files(), "manifest.new")
	if s.strokes == 6 {
		k-- // so that 0 is Remove, and 1 Create
	}
	switch {
	case k == 1:
		left, hasNew = nil, false
	case k == 2:
		left, hasNew = nil, true
	case k == 3 || k == 4:
		left, hasNew = slowEncode(example()), true
	case k == 5:
		name, hasName, left, hasNew = slowEncode(example()), true, nil, false
	}
	if b, is := bytesOf(d.Files(), "manifest"); is != hasName || !bytes.Equal(b, name) {
		t.Errorf("P15.4: %s, stroke %d: Name: %v, %x", s.what, k, is, b)
	}
	if b, is := bytesOf(d.Files(), "manifest.new"); is != hasNew || !bytes.Equal(b, left) {
		t.Errorf("P15.4: %s, stroke %d: New: %v, %x", s.what, k, is, b)
	}
}

// P15.4: faults that meet no stroke, or are none, change nothing; of several the first stroke that fails counts.
func TestInstallPlans(t *testing.T) {
	for _, s := range scenes() {
		for _, f := range []api.Fault{{}, {At: 0, Kind: 1}, {At: -1, Kind: 1}, {At: s.strokes + 1, Kind: 1}, {At: 1, Kind: 0}, {At: 2, Kind: 4}, {At: 3, Kind: -1}, {At: math.MaxInt, Kind: 2}} {
			p := paired(t, s)
			p.plan(api.Plan{Strokes: []api.Fault{f}})
			if is, e := p.install(example()); !is || e != api.OK || p.d.Strokes() != s.strokes {
				t.Errorf("P15.4: %s, %v: %v, %v", s.what, f, is, e)
			}
		}
		for first := 1; first <= s.strokes; first++ {
			p := paired(t, s)
			var plan api.Plan
			for k := s.strokes; k >= first; k-- {
				plan.Strokes = append(plan.Strokes, api.Fault{At: k, Kind: 1 + k%3})
			}
			p.plan(plan)
			if _, e := p.install(example()); e != faults()[first%3].e || p.d.Strokes() != first {
				t.Errorf("P15.4: %s: %v behind %d strokes, not %d", s.what, e, p.d.Strokes(), first)
			}
		}
	}
}

// P15.4: too little room: the Append fails, and New is left without a byte.
func TestInstallNoRoom(t *testing.T) {
	m, size := example(), len(slowEncode(example()))
	was := file("manifest", slowEncode(ahead()))
	for _, x := range []struct {
		there []api.FileBytes
		needs int // what is held when the Append is done
	}{
		{nil, size},
		{[]api.FileBytes{was}, len(was.Data) + size},
		{[]api.FileBytes{was, file("x", make([]byte, 100))}, len(was.Data) + size + 100},
		{[]api.FileBytes{was, file("manifest.new", make([]byte, 30))}, len(was.Data) + 30 + size}, // it is held till the names are synced
	} {
		least := 0
		for _, f := range x.there {
			least += len(f.Data)
		}
		for room := least; room < x.needs+3; room++ {
			d, by := newDisk(t, room, 5, x.there...), newDisk(t, room, 5, x.there...)
			p := &pair{t, "too little room", d, by}
			is, e := p.install(m)
			if room >= x.needs {
				if !is || e != api.OK {
					t.Errorf("P15.4: room %d of %d: %v, %v", room, x.needs, is, e)
				}
				says(t, d, m)
				continue
			}
			if b, there := bytesOf(d.Files(), "manifest.new"); is || e != api.ErrFull || !there || len(b) > 0 {
				t.Errorf("P15.4: room %d of %d: %v, %v; New: %v, %x", room, x.needs, is, e, there, b)
			}
			if len(x.there) > 0 {
				says(t, d, ahead())
			}
			if is, e := p.install(m); is || e != api.ErrFull { // there is no more room the second time
				t.Errorf("P15.4: once more: %v, %v", is, e)
			}
		}
	}
}

// P15.4: too few files: the Create fails, and New is not there.
func TestInstallNoFiles(t *testing.T) {
	was := file("manifest", slowEncode(ahead()))
	for _, x := range []struct {
		there   []api.FileBytes
		strokes int
		needs   int
	}{
		{nil, 1, 1},
		{[]api.FileBytes{was}, 1, 2},
		{[]api.FileBytes{was, file("x", nil)}, 1, 3},
		{[]api.FileBytes{file("manifest.new", nil)}, 2, 2}, // what is removed lives till the names are synced
		{[]api.FileBytes{was, file("manifest.new", nil)}, 2, 3},
	} {
		for files := len(x.there); files < x.needs+2; files++ {
			p := &pair{t, "too few files", newDisk(t, 1000, files, x.there...), newDisk(t, 1000, files, x.there...)}
			is, e := p.install(example())
			if files >= x.needs {
				if !is || e != api.OK {
					t.Errorf("P15.4: %d files of %d: %v, %v", files, x.needs, is, e)
				}
				says(t, p.d, example())
				continue
			}
			if _, there := bytesOf(p.d.Files(), "manifest.new"); is || e != api.ErrFiles || there || p.d.Strokes() != x.strokes {
				t.Errorf("P15.4: %d files of %d: %v, %v; New: %v", files, x.needs, is, e, there)
			}
			p.install(example())
		}
	}
	var zero disk.Disk
	installs(t, &zero, example(), false, api.ErrFiles)
	if zero.Strokes() != 1 {
		t.Errorf("P15.4: %d strokes of a zero Disk", zero.Strokes())
	}
}

// P15.4: Install upon Install, with faults, crashes and files that are handed, against the chapter's words.
func TestInstallAgainstWords(t *testing.T) {
	seen := map[api.Errno]int{}
	for seed := range int64(3000) {
		r := rand.New(rand.NewSource(seed))
		room, files := 40+r.Intn(200), 1+r.Intn(5)
		p := &pair{t, "random", newDisk(t, room, files), newDisk(t, room, files)}
		for range 12 {
			switch r.Intn(6) {
			case 0:
				p.crash(api.Picks{Names: r.Intn(5), Files: []api.Pick{{Done: r.Intn(3), Lost: []int{r.Intn(4)}}, {Done: r.Intn(3)}, {Done: r.Intn(3)}}})
			case 1:
				p.plan(api.Plan{Strokes: []api.Fault{{At: 1 + r.Intn(12), Kind: 1 + r.Intn(3)}, {At: 1 + r.Intn(12), Kind: r.Intn(5)}}})
			case 2:
				name, data := []string{"manifest", "manifest.new", "x"}[r.Intn(3)], make([]byte, r.Intn(40))
				if p.d.Hand(name, data) != p.by.Hand(name, data) {
					t.Fatal("the disks are not alike")
				}
			default:
				m := someManifest(r)
				if r.Intn(8) == 0 {
					m = refusedList()[r.Intn(len(refusedList()))]
				}
				_, e := p.install(m)
				seen[e]++
			}
			if t.Failed() {
				t.Fatalf("seed %d", seed)
			}
		}
	}
	for _, e := range []api.Errno{api.OK, api.ErrArg, api.ErrOff, api.ErrIO, api.ErrFull, api.ErrFiles} {
		if seen[e] < 100 {
			t.Errorf("%v was met %d times", e, seen[e])
		}
	}
}
