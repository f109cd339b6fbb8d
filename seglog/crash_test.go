package seglog_test

import (
	"bytes"
	"slices"
	"testing"

	"treadle/api"
	"treadle/disk"
	"treadle/frame"
	"treadle/seglog"
)

// said is what the segments' files of a disk say, Scanned one behind the other: the first number, and the transactions.
func said(t testing.TB, d *disk.Disk) (int, []api.Txn) {
	t.Helper()
	first, next := 0, 0
	var all []api.Txn
	for _, f := range d.Files() { // by their names, so by their numbers
		n, is := seglog.First(f.Name)
		if !is {
			continue
		}
		if first == 0 {
			first, next = n, n
		}
		if n != next {
			t.Errorf("P13.9: the segment %d follows the transaction %d", n, next-1)
			return first, all
		}
		for b := range seglog.Scan(f.Data, n) {
			all = append(all, b.Txns...)
			next += len(b.Txns)
		}
	}
	return first, all
}

// ofLog holds the segments' files against a log's: their Sizes, and that there are no others.
func ofLog(t testing.TB, d *disk.Disk, l *seglog.Log) {
	t.Helper()
	var there []api.Segment
	for _, f := range d.Files() {
		if n, is := seglog.First(f.Name); is {
			there = append(there, api.Segment{First: n, Size: len(f.Data)})
		}
	}
	if !slices.Equal(there, l.Segments()) {
		t.Errorf("P13.8: the files are %v, the segments %v", there, l.Segments())
	}
}

// forges tells whether a crash has forged: a file's whole frames are not the beginning of what was told of it.
func forges(d *disk.Disk, told []api.FileBytes) bool {
	for _, f := range d.Files() {
		row, _ := fileOf(told, f.Name)
		if !bytes.HasPrefix(row, f.Data[:frame.Whole(f.Data)]) {
			return true
		}
	}
	return false
}

// somePicks is picks of all kinds for a disk with so many names pending, so many files, and files of so many sectors.
func somePicks(names, files, sectors int) []api.Picks {
	losts := [][]int{nil, {0, 1}, {-1, -2}}
	for s := range sectors {
		losts = append(losts, []int{s})
	}
	var out []api.Picks
	for n := range names + 1 {
		out = append(out, api.Picks{Names: n})
		for done := 1; done < 3; done++ {
			for _, lost := range losts {
				out = append(out, api.Picks{Names: n, Files: slices.Repeat([]api.Pick{{Done: done, Lost: lost}}, files)})
			}
		}
	}
	return out
}

// crashScenes is scenes whose crashes are looked at.
func crashScenes() []scene {
	return []scene{
		{1000, nil, []int{1}},
		{1000, nil, []int{2, 1, 3}},
		{1, nil, []int{2, 1}},
		{40, nil, []int{1, 1, 1, 1, 1}},
		{1000, []int{1}, []int{1, 2}},
		{1000, []int{2, 1}, []int{12, 1}},
		{1, []int{1}, []int{1, 1}},
		{1, []int{0}, []int{1, 4}},
		{60, []int{2, 2}, []int{1, 1, 1}},
		{60, []int{2, 0}, []int{10, 1, 1, 12}},
	}
}

// numbered is a scene in which no two transactions are the same: the disk, the log, what was durable, and all of it.
func (s scene) numbered(t testing.TB) (*disk.Disk, *seglog.Log, []api.Txn, []api.Txn) {
	t.Helper()
	d := newDisk(t, 100000, 100)
	var segments []api.Segment
	var durable []api.Txn
	next := 1
	for i, n := range s.there {
		var all [][]api.Txn
		for k := range n {
			all = append(all, calls(1, 10*i+k))
		}
		data := segmentOf(next, all...)
		if e := d.Hand(slowName(next), data); e != api.OK {
			t.Fatal(e)
		}
		segments = append(segments, api.Segment{First: next, Size: len(data)})
		next += n
		durable = append(durable, slices.Concat(all...)...)
	}
	l := started(t, d, s.limit, segments, next)
	all := slices.Clone(durable)
	for i, n := range s.waits {
		txns := calls(n, 50+i)
		taken(t, l, txns...)
		all = append(all, txns...)
	}
	return d, l, durable, all
}

// P13.8: behind each Flush the files say all transactions up to Durable, from the first segment's on.
func TestFilesSayAll(t *testing.T) {
	for _, s := range crashScenes() {
		d, l, _, all := s.numbered(t)
		for i := range 6 {
			flushed(t, l)
			ofLog(t, d, l)
			first, got := said(t, d)
			if first != 1 || !slices.EqualFunc(got, all, sameTxn) || l.Durable() != len(all) {
				t.Errorf("P13.8: from %d: %d transactions, durable %d, not %d", first, len(got), l.Durable(), len(all))
			}
			txns := calls(1+i, 80+i)
			taken(t, l, txns...)
			all = append(all, txns...)
		}
		flushed(t, l)
		// Behind a Trim those from the first segment's on.
		for upto := range len(all) {
			if e := l.Trim(upto); e != api.OK {
				t.Fatal(e)
			}
			first, got := said(t, d)
			if first > upto+1 || first != l.Segments()[0].First || !slices.EqualFunc(got, all[first-1:], sameTxn) {
				t.Errorf("P13.8: Trim(%d): from %d, %d transactions", upto, first, len(got))
			}
			ofLog(t, d, l)
		}
	}
}

// P13.8: a crash behind a Flush that answers OK leaves all, whatever it picks.
func TestCrashBehindFlush(t *testing.T) {
	for _, s := range crashScenes() {
		for _, p := range somePicks(3, 12, 8) {
			d, l, _, all := s.numbered(t)
			flushed(t, l)
			files := d.Files()
			d.Crash(p)
			if !slices.EqualFunc(d.Files(), files, sameFile) {
				t.Errorf("P13.8: a crash %v changes the files of %v", p, s)
			}
			if first, got := said(t, d); first != 1 || !slices.EqualFunc(got, all, sameTxn) {
				t.Errorf("P13.8: a crash %v of %v: %d transactions from %d", p, s, len(got), first)
			}
		}
	}
}

func sameFile(a, b api.FileBytes) bool { return a.Name == b.Name && bytes.Equal(a.Data, b.Data) }

// P13.8: what waits, and was never flushed, is not in the files, and a crash brings none of it.
func TestCrashAheadOfFlush(t *testing.T) {
	for _, s := range crashScenes() {
		d, l, durable, _ := s.numbered(t)
		if l.Durable() != len(durable) {
			t.Errorf("P13.4: durable %d", l.Durable())
		}
		d.Crash(api.Picks{Names: -1, Files: slices.Repeat([]api.Pick{{Done: -1}}, 12)})
		if _, got := said(t, d); !slices.EqualFunc(got, durable, sameTxn) {
			t.Errorf("P13.9: %d transactions, not %d", len(got), len(durable))
		}
	}
}

// P13.9: at each stroke of a Flush that fails, or at which the power goes off, a crash leaves all that was durable, and a first part of what waited.
func TestCrashAtEachStroke(t *testing.T) {
	forged, parts := 0, 0
	for _, s := range crashScenes() {
		for _, f := range faults() {
			for k := 1; ; k++ {
				d, l, durable, all := s.numbered(t)
				d.Plan(failsAt(k, f.kind))
				e := l.Flush()
				if d.Strokes() < k { // all of them are gone through
					if e != api.OK {
						t.Errorf("P13.5: %v", e)
					}
					break
				}
				names, changes := d.Pending()
				if l.Durable() != len(durable) {
					t.Errorf("P13.5: durable %d", l.Durable())
				}
				for _, p := range somePicks(names, len(changes), 10) {
					d, l, durable, all = s.numbered(t)
					d.Plan(failsAt(k, f.kind))
					l.Flush()
					if forges(d, d.Crash(p)) {
						forged++
						continue
					}
					first, got := said(t, d)
					if len(durable) > 0 && first != 1 || len(got) < len(durable) || len(got) > len(all) || !slices.EqualFunc(got, all[:len(got)], sameTxn) {
						t.Errorf("P13.9: %v, stroke %d, crash %v: %d transactions from %d; %d were durable", s, k, p, len(got), first, len(durable))
					}
					if len(got) > len(durable) && len(got) < len(all) {
						parts++
					}
				}
			}
		}
	}
	if forged > 0 || parts < 100 {
		t.Errorf("%d crashes forge, %d leave a part", forged, parts)
	}
}

// P13.8: log upon log: what a crash leaves is where the next one starts.
func TestLogUponLog(t *testing.T) {
	r := chanceOf(8)
	for range 60 {
		d := wide(t)
		limit := []int{1, 30, 100, 1000}[r.Intn(4)]
		var all []api.Txn
		var segments []api.Segment
		for range 5 {
			l := started(t, d, limit, segments, len(all)+1)
			for range r.Intn(4) {
				txns := r.txns()
				taken(t, l, txns...)
				all = append(all, txns...)
				if r.Intn(2) == 0 {
					flushed(t, l)
				}
			}
			flushed(t, l)
			ofLog(t, d, l)
			segments = l.Segments()
			d.Crash(api.Picks{Names: r.Intn(5), Files: slices.Repeat([]api.Pick{{Done: r.Intn(5), Lost: []int{r.Intn(9), r.Intn(9)}}}, 20)})
			if first, got := said(t, d); len(all) > 0 && (first != 1 || !slices.EqualFunc(got, all, sameTxn)) {
				t.Errorf("P13.8: %d transactions from %d, not %d", len(got), first, len(all))
			}
		}
	}
}

// P13.9: many Flushes of a log, the last of which fails at random, and a random crash.
func TestCrashRandom(t *testing.T) {
	broken := 0
	for seed := range int64(1500) {
		r := chanceOf(seed)
		d := newDisk(t, 2000+r.Intn(2000), 4+r.Intn(8))
		l := started(t, d, []int{1, 60, 200, 1000}[r.Intn(4)], nil, 1)
		d.Plan(failsAt(1+r.Intn(30), 1+r.Intn(3)))
		var all []api.Txn
		durable := 0
		for range 8 {
			for range 1 + r.Intn(3) {
				txns := r.txns()
				if _, e := l.Append(txns); e == api.OK {
					all = append(all, txns...)
				}
			}
			if l.Flush() == api.OK {
				durable = len(all)
			}
			if l.Durable() != durable {
				t.Errorf("P13.5: durable %d, not %d", l.Durable(), durable)
			}
		}
		if l.Broken() {
			broken++
		}
		var files []api.Pick
		for range 12 {
			files = append(files, api.Pick{Done: r.Intn(3), Lost: []int{r.Intn(30), r.Intn(30)}[:r.Intn(3)]})
		}
		if forges(d, d.Crash(api.Picks{Names: r.Intn(6), Files: files})) {
			continue
		}
		first, got := said(t, d)
		if durable > 0 && first != 1 || len(got) < durable || len(got) > len(all) || !slices.EqualFunc(got, all[:min(len(got), len(all))], sameTxn) {
			t.Errorf("P13.9: seed %d: %d transactions from %d; %d were durable, %d taken", seed, len(got), first, durable, len(all))
		}
	}
	if broken < 700 {
		t.Errorf("%d are broken", broken)
	}
}

// P13.3 to P13.9: all calls in random order, with faults, against the chapter's words.
func TestAgainstWords(t *testing.T) {
	broken, full := 0, 0
	for seed := range int64(3000) {
		r := chanceOf(seed)
		s := scene{limit: []int{1, 14, 28, 40, 100, 1000, api.MaxRoom}[r.Intn(7)]}
		for range r.Intn(4) {
			s.there = append(s.there, 1+r.Intn(2))
		}
		if r.Intn(3) == 0 {
			s.there = append(s.there, 0)
		}
		files, segments, next := s.files()
		p := paired(t, 200+r.Intn(2000), 5+r.Intn(10), s.limit, files, segments, next)
		if r.Intn(2) == 0 {
			p.plan(api.Plan{Strokes: []api.Fault{{At: 1 + r.Intn(25), Kind: 1 + r.Intn(3)}, {At: 1 + r.Intn(25), Kind: r.Intn(5)}}, Reads: []api.Fault{{At: 1, Kind: 1}}})
		}
		for range 25 {
			switch r.Intn(8) {
			case 0, 1, 2:
				p.append(r.txns()...)
			case 3:
				p.append(r.wrong()...)
			case 4, 5:
				if e := p.flush(); e == api.ErrFull || e == api.ErrFiles {
					full++
				}
			case 6:
				p.trim(r.Intn(p.l.Next()+3) - 1)
			case 7:
				p.flush()
				p.flush()
			}
			if t.Failed() {
				t.Fatalf("seed %d", seed)
			}
		}
		if p.l.Broken() {
			broken++
		}
		picks := api.Picks{Names: r.Intn(6), Files: slices.Repeat([]api.Pick{{Done: r.Intn(3), Lost: []int{r.Intn(5)}}}, 10)}
		p.d.Crash(picks)
		p.m.d.Crash(picks)
		p.alike("P13.9")
	}
	if broken < 800 || full < 200 {
		t.Errorf("%d are broken, %d full", broken, full)
	}
}
