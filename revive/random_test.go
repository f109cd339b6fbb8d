package revive_test

import (
	"fmt"
	"math/rand"
	"slices"
	"testing"

	"treadle/api"
	"treadle/disk"
	"treadle/revive"
)

// someLog is a log of the history up to a number, in segments and batches of any size; where it can, a batch ends at each mark.
func someLog(r *rand.Rand, first, last int, marks ...int) dir {
	var x dir
	for first <= last {
		var counts []int
		next := first
		for range r.Intn(4) + 1 {
			count := 1 + r.Intn(4)
			for _, m := range marks {
				if next <= m && r.Intn(20) > 0 {
					count = min(count, m-next+1)
				}
			}
			if count = min(count, last-next+1); count > 0 {
				counts = append(counts, count)
				next += count
			}
		}
		x = append(x, seg(first, counts...))
		first = next
	}
	if r.Intn(4) == 0 {
		x = append(x, seg(first))
	}
	return x
}

// someDir is a directory as a store leaves it: two checkpoints, one or none, and a log that goes on from one of them, or from the beginning.
func someDir(r *rand.Rand) dir {
	mark, ahead := 1+r.Intn(9), 0
	ahead = r.Intn(mark)
	last := mark + r.Intn(8)
	switch r.Intn(4) {
	case 0:
		return someLog(r, 1, last)
	case 1:
		return dir{man(of(1, 4, mark, 0, 0)), ck(4, mark)}.with(someLog(r, 1+r.Intn(mark+1), last, mark)...)
	case 2:
		return dir{man(of(5, 9, mark, 5, ahead)), ck(9, mark), ck(5, ahead)}.with(someLog(r, 1+r.Intn(mark+1), last, ahead, mark)...)
	}
	return dir{man(of(5, 9, mark, 5, ahead)), ck(5, ahead)}.with(someLog(r, 1+r.Intn(ahead+1), last, ahead, mark)...)
}

// harmed is a directory to which something has happened.
func (x dir) harmed(r *rand.Rand) dir {
	if len(x) == 0 {
		return x.with(file(logName(1), []byte{1}))
	}
	f := x[r.Intn(len(x))]
	switch r.Intn(8) {
	case 0:
		return x.without(f.Name)
	case 1:
		if len(f.Data) > 0 {
			return x.turned(f.Name, r.Intn(len(f.Data)))
		}
	case 2, 3:
		return x.cut(f.Name, r.Intn(len(f.Data)+1))
	case 4:
		tail := make([]byte, 1+r.Intn(20))
		r.Read(tail)
		return x.more(f.Name, tail...)
	case 5:
		return x.with(file(logName(1+r.Intn(12)), f.Data))
	case 6:
		return x.with(file(ckptName([]int{4, 5, 9}[r.Intn(3)]), f.Data))
	case 7:
		return x.with(seg(1+r.Intn(12), 1+r.Intn(3)))
	}
	return x
}

// somePlan is a plan that fails now and then.
func somePlan(r *rand.Rand) api.Plan {
	switch r.Intn(6) {
	case 0:
		return readFails(1+r.Intn(6), 1+r.Intn(3))
	case 1:
		return strokeFails(1+r.Intn(3), 1+r.Intn(3))
	}
	return api.Plan{}
}

// P17.1, P17.2, P0.8: directories as a store leaves them, harmed in no, one or more ways, with plans: each answer is that of the chapter's words.
func TestRandom(t *testing.T) {
	tally := map[string]int{}
	for seed := range int64(6000) {
		r := rand.New(rand.NewSource(seed))
		x := someDir(r)
		for range r.Intn(4) {
			x = x.harmed(r)
		}
		p := somePlan(r)
		s, e, d := agrees(t, fmt.Sprintf("seed %d", seed), func() *disk.Disk {
			d := x.disk(t)
			d.Plan(p)
			return d
		}, r.Intn(5))
		if t.Failed() {
			t.FailNow()
		}
		tally[fmt.Sprint(e)]++
		if e != api.OK {
			continue
		}
		if s.Opened.Torn > 0 {
			tally["torn"]++
		}
		if s.Has && s.Opened.Base != s.Manifest.Mark {
			tally["ahead"]++
		}
		d.Plan(api.Plan{})
		again(t, "P17.3", d, shownOf(s), 0)
	}
	for _, what := range []string{fmt.Sprint(api.OK), fmt.Sprint(api.ErrDamage), fmt.Sprint(api.ErrIO), "torn", "ahead"} {
		if tally[what] < 100 {
			t.Errorf("the directories are too much alike: %v", tally)
		}
	}
}

// W1, P0.8: files of any bytes under the store's own names: an error or a State, the same each time.
func TestAnyBytes(t *testing.T) {
	names := []string{"manifest", "manifest.new", ckptName(4), ckptName(5), ckptName(9), logName(1), logName(2), logName(5), logName(most)}
	pieces := [][]byte{nil, {0}, make([]byte, 40), rows(1, history, 1, 2), rows(2, history, 3), rows(5, history, 1), man(of(1, 4, 3, 0, 0)).Data, man(of(5, 9, 4, 5, 0)).Data, ck(4, 3).Data, ck(9, 4).Data, ck(5, 0).Data}
	for seed := range int64(4000) {
		r := rand.New(rand.NewSource(seed))
		var x dir
		for _, name := range names {
			if r.Intn(3) == 0 {
				continue
			}
			data := slices.Concat(pieces[r.Intn(len(pieces))], pieces[r.Intn(len(pieces))])
			if r.Intn(3) > 0 {
				data = pieces[r.Intn(len(pieces))]
			}
			if r.Intn(4) == 0 && len(data) > 0 {
				data = slices.Clone(data)
				data[r.Intn(len(data))] ^= byte(1 + r.Intn(255))
			}
			x = append(x, file(name, data))
		}
		_, e, _ := agrees(t, fmt.Sprintf("seed %d", seed), func() *disk.Disk { return x.disk(t) }, 2)
		if e != api.OK && e != api.ErrDamage {
			t.Errorf("P17.1: %v", e)
		}
		if t.Failed() {
			t.FailNow()
		}
	}
}

// FuzzOpen: three files of any bytes.
func FuzzOpen(f *testing.F) {
	f.Add(man(of(1, 4, 3, 0, 0)).Data, ck(4, 3).Data, rows(1, history, 3, 2))
	f.Add([]byte{}, []byte{}, []byte{})
	f.Fuzz(func(t *testing.T, m, c, l []byte) {
		x := dir{file("manifest", m), file(ckptName(4), c), file(logName(1), l)}
		agrees(t, "P0.8", func() *disk.Disk { return x.disk(t) }, 2)
		agrees(t, "P0.8", func() *disk.Disk { return x.without("manifest").disk(t) }, 2)
		if _, e := revive.Open(x.disk(t), 1); e != api.OK && e != api.ErrDamage {
			t.Error(e)
		}
	})
}
