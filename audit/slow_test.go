package audit_test

import (
	"regexp"
	"slices"
	"strconv"

	"treadle/api"
	"treadle/batch"
	"treadle/frame"
	"treadle/manifest"
	"treadle/page"
)

// What chapters 17 and 20 say, done slowly, step by step; each file is looked for in the whole list.

var (
	logNames = regexp.MustCompile(`^log-([0-9a-f]{12})$`)
	ownNames = regexp.MustCompile(`^(manifest|manifest\.new|(log|ckpt)-[0-9a-f]{12})$`)
	noNumber = regexp.MustCompile(`-000000000000$`)
)

// slowFirst is the number of a segment's name, 0 of another one.
func slowFirst(name string) int {
	m := logNames.FindStringSubmatch(name)
	if m == nil {
		return 0
	}
	n, _ := strconv.ParseInt(m[1], 16, 64)
	return int(n)
}

func slowOwn(name string) bool { return ownNames.MatchString(name) && !noNumber.MatchString(name) }

// slowScan is the batches of a segment, and the place behind the last one.
func slowScan(data []byte, first int) ([]api.Batch, int) {
	var all []api.Batch
	at := 0
	for {
		body, end, e := frame.Next(data, at)
		if e != api.OK {
			return all, at
		}
		b, e := batch.Decode(body)
		if e != api.OK || b.First != first {
			return all, at
		}
		all = append(all, b)
		first, at = lastOf(b)+1, end
	}
}

func lastOf(b api.Batch) int { return b.First + len(b.Txns) - 1 }

// slow is an opening that notes what it reads.
type slow struct {
	files   []api.FileBytes
	read    []string
	numbers []int // of the segments, rising
}

func (s *slow) has(name string) bool {
	return slices.ContainsFunc(s.files, func(f api.FileBytes) bool { return f.Name == name })
}

func (s *slow) reads(name string) []byte {
	s.read = append(s.read, name)
	i := slices.IndexFunc(s.files, func(f api.FileBytes) bool { return f.Name == name })
	return s.files[i].Data
}

func (s *slow) fits(number, mark int) bool {
	if !s.has(ckptName(number)) {
		return false
	}
	x, e := page.Read(s.reads(ckptName(number)))
	return e == api.OK && x.Number == number && x.Mark == mark
}

// manifest is what the manifest says, whether there is one, and whether that is no damage.
func (s *slow) manifest() (m api.Manifest, has, sound bool) {
	if !s.has("manifest") {
		return m, false, true
	}
	m, e := manifest.Decode(s.reads("manifest"))
	return m, e == api.OK, e == api.OK
}

// base is the base, and whether one was found.
func (s *slow) base(m api.Manifest, has bool) (int, bool) {
	if !has {
		return 0, true
	}
	if s.fits(m.File, m.Mark) {
		return m.Mark, true
	}
	reached := slices.ContainsFunc(s.numbers, func(n int) bool { return n <= m.PrevMark+1 })
	if m.Prev > 0 && reached && s.fits(m.Prev, m.PrevMark) {
		return m.PrevMark, true
	}
	return 0, false
}

// log is the segments with their Sizes, the last transaction, how many bytes are torn, and whether all that fits together.
func (s *slow) log(base int) (all []api.Segment, last, torn int, sound bool) {
	if len(s.numbers) == 0 {
		return nil, base, 0, true
	}
	needed := -1
	for i, n := range s.numbers {
		all = append(all, api.Segment{First: n})
		if n <= base+1 {
			needed = i
		}
	}
	if needed < 0 {
		return nil, 0, 0, false
	}
	last = s.numbers[needed] - 1
	for i := needed; i < len(s.numbers); i++ {
		data := s.reads(logName(s.numbers[i]))
		if i > needed && s.numbers[i] != last+1 {
			return nil, 0, 0, false
		}
		batches, end := slowScan(data, s.numbers[i])
		for _, b := range batches {
			if b.First <= base && lastOf(b) > base {
				return nil, 0, 0, false
			}
			last = lastOf(b)
		}
		all[i].Size, torn = end, len(data)-end
		if torn > 0 && i < len(s.numbers)-1 {
			return nil, 0, 0, false
		}
	}
	return all, last, torn, last >= base
}

// slowLook is Look by the chapter's words.
func slowLook(files []api.FileBytes) (r api.Report) {
	s := &slow{files: files}
	var names []string
	for _, f := range files {
		if slices.Contains(names, f.Name) {
			return api.Report{Err: api.ErrArg}
		}
		names = append(names, f.Name)
		if n := slowFirst(f.Name); n > 0 {
			s.numbers = append(s.numbers, n)
		}
	}
	slices.Sort(names)
	slices.Sort(s.numbers)
	r.Err = api.ErrDamage
	m, has, sound := s.manifest()
	r.Has, r.Manifest = has, m
	if sound {
		base, is := s.base(m, has)
		if is {
			all, last, torn, whole := s.log(base)
			if whole {
				r.Err, r.Segments = api.OK, all
				r.Opened = api.Opened{Base: base, Last: last, Replayed: last - base, Torn: torn}
			}
		}
	}
	r.Needed = s.read
	for _, name := range names {
		switch {
		case slices.Contains(s.read, name):
		case slowOwn(name):
			r.Left = append(r.Left, name)
		default:
			r.Others = append(r.Others, name)
		}
	}
	return r
}
