package ckpt_test

import (
	"encoding/binary"
	"fmt"
	"hash/crc32"
	"slices"
	"strconv"
	"strings"
	"testing"

	"treadle/api"
	"treadle/ckpt"
	"treadle/datum"
	"treadle/disk"
	"treadle/proc"
)

// What the chapter says, done slowly. The bytes of the chapters 14 and 15 are written here anew, and Install stroke by stroke;
// what the stores had is copied when a Job begins, and no snapshot of theirs is asked.

func slowName(number int) string {
	if number < 1 || number > most {
		return ""
	}
	digits := strconv.FormatInt(int64(number), 16)
	return "ckpt-" + strings.Repeat("0", 12-len(digits)) + digits
}

func slowNumber(name string) (int, bool) {
	rest, is := strings.CutPrefix(name, "ckpt-")
	n, err := strconv.ParseInt(rest, 16, 64)
	if !is || err != nil || slowName(int(n)) != name {
		return 0, false
	}
	return int(n), true
}

var castagnoli = crc32.MakeTable(crc32.Castagnoli)

// framed is the frame of a body.
func framed(body []byte) []byte {
	head := binary.LittleEndian.AppendUint32(nil, uint32(len(body)))
	head = binary.LittleEndian.AppendUint32(head, crc32.Checksum(slices.Concat(head, body), castagnoli))
	return append(head, body...)
}

// row is numbers and texts as chapter 1 has them.
func row(all ...any) []byte {
	var b []byte
	for _, x := range all {
		switch x := x.(type) {
		case int:
			b = binary.AppendUvarint(b, uint64(x))
		case string:
			b = append(binary.AppendUvarint(b, uint64(len(x))), x...)
		case []byte:
			b = append(binary.AppendUvarint(b, uint64(len(x))), x...)
		}
	}
	return b
}

// slowManifest is the bytes of a manifest.
func slowManifest(m api.Manifest) []byte {
	return framed(row("manifest", m.Number, m.File, m.Mark, m.Prev, m.PrevMark))
}

func slowMayBe(m api.Manifest) bool {
	within := func(v, least, most int) bool { return v >= least && v <= most }
	if !within(m.Number, 1, most) || !within(m.File, 1, most) || !within(m.Mark, 0, most) || !within(m.Prev, 0, m.File-1) {
		return false
	}
	if m.Prev == 0 {
		return m.PrevMark == 0
	}
	return within(m.PrevMark, 0, m.Mark-1)
}

// slowInstall is chapter 15's Install.
func slowInstall(d *disk.Disk, m api.Manifest) (bool, api.Errno) {
	if !slowMayBe(m) {
		return false, api.ErrArg
	}
	names, e := d.List()
	if e == api.OK && slices.Contains(names, "manifest.new") {
		e = d.Remove("manifest.new")
	}
	if e == api.OK {
		e = d.Create("manifest.new")
	}
	if e == api.OK {
		e = d.Append("manifest.new", slowManifest(m))
	}
	if e == api.OK {
		e = d.Sync("manifest.new")
	}
	if e == api.OK {
		e = d.Rename("manifest.new", "manifest")
	}
	if e != api.OK {
		return false, e
	}
	return true, d.SyncNames()
}

// slowJob is a Job by the chapter's words.
type slowJob struct {
	w      world
	next   api.Manifest
	page   int
	had    state // what the stores had when it was begun
	taken  int   // of it, procedures first
	frames int
	going  bool
}

func slowBegin(w world, was api.Manifest, has bool, mark, page int) (*slowJob, api.Errno) {
	if w.d == nil || w.values == nil || w.procs == nil || mark < 0 || mark > most || page < 1 || page > 128 {
		return nil, api.ErrArg
	}
	if w.values.Marked() || w.procs.Marked() {
		return nil, api.ErrBusy
	}
	names, e := w.d.List()
	if e != api.OK {
		return nil, e
	}
	var numbers []int
	if has {
		numbers = append(numbers, was.File)
	}
	for _, name := range names {
		if n, is := slowNumber(name); is {
			numbers = append(numbers, n)
		}
	}
	next := of(1, 1, mark, 0, 0)
	if len(numbers) > 0 {
		if slices.Max(numbers) > most-1 {
			return nil, api.ErrNumber
		}
		next.File = slices.Max(numbers) + 1
	}
	if has {
		if was.Number > most-1 {
			return nil, api.ErrNumber
		}
		next.Number, next.Prev, next.PrevMark = was.Number+1, was.File, was.Mark
	}
	if e := w.d.Create(slowName(next.File)); e != api.OK {
		return nil, e
	}
	j := &slowJob{w: w, next: next, page: page, had: w.now(), going: true}
	w.values.Mark()
	w.procs.Mark()
	return j, api.OK
}

// frame is the next frame of the file.
func (j *slowJob) frame(kind int, rest ...any) []byte {
	j.frames++
	return framed(append(row(kind, j.frames-1), row(rest...)...))
}

// bytes is the file's bytes of the next so many entries, up to the end of the file, if none is left.
func (j *slowJob) bytes(count int) []byte {
	var b []byte
	if j.frames == 0 {
		b = append(b, j.frame(1, j.next.File, j.next.Mark)...)
	}
	var entries []any
	for range count {
		if j.taken < len(j.had.procs) {
			p, _ := proc.Encode(j.had.procs[j.taken])
			b = append(b, j.frame(2, p)...)
		} else {
			x := j.had.entries[j.taken-len(j.had.procs)]
			v, _ := datum.Encode(x.Value)
			entries = append(entries, x.Key, v)
		}
		j.taken++
	}
	if len(entries) > 0 {
		b = append(b, j.frame(3, append([]any{len(entries) / 2}, entries...)...)...)
	}
	if j.taken == j.had.size() {
		b = append(b, j.frame(4, len(j.had.procs), len(j.had.entries))...)
	}
	return b
}

func (j *slowJob) step(n int) (api.Manifest, bool, api.Errno) {
	if j == nil {
		return none, false, api.ErrArg
	}
	if !j.going {
		return none, false, api.ErrIdle
	}
	if n < 1 {
		return none, false, api.ErrArg
	}
	b := j.bytes(min(n, j.page, j.had.size()-j.taken))
	name := slowName(j.next.File)
	e := j.w.d.Append(name, b)
	if e == api.OK && j.taken < j.had.size() {
		return none, false, api.OK
	}
	if e == api.OK {
		e = j.w.d.Sync(name)
	}
	if e != api.OK {
		j.drop()
		j.w.d.Remove(name)
		return none, false, e
	}
	is, e := slowInstall(j.w.d, j.next)
	j.drop()
	if !is {
		return none, false, e
	}
	return j.next, true, e
}

func (j *slowJob) drop() {
	if j == nil || !j.going {
		return
	}
	j.w.values.Done()
	j.w.procs.Done()
	j.going = false
}

func slowCollect(d *disk.Disk, m api.Manifest, has bool) api.Errno {
	if d == nil {
		return api.ErrArg
	}
	names, e := d.List()
	if e != api.OK {
		return e
	}
	var gone []string
	for _, name := range names {
		n, is := slowNumber(name)
		if name == "manifest.new" || is && !has || is && n != m.File && n != m.Prev {
			gone = append(gone, name)
		}
	}
	for _, name := range gone {
		if e := d.Remove(name); e != api.OK {
			return e
		}
	}
	return d.SyncNames()
}

// fileOf is a checkpoint's file, written at one go with a page of so many.
func fileOf(t testing.TB, number, mark, page int, s state) []byte {
	t.Helper()
	j := &slowJob{next: of(0, number, mark, 0, 0), had: s}
	var b []byte
	for first := true; first || j.taken < s.size(); first = false {
		b = append(b, j.bytes(min(page, s.size()-j.taken))...)
	}
	return b
}

// pair is two worlds to which the same things happen: ckpt in one, the chapter's words in the other.
type pair struct {
	t    testing.TB
	why  string
	w    world
	by   world
	j    *ckpt.Job
	slow *slowJob
}

func paired(t testing.TB, s state, there ...api.FileBytes) *pair {
	t.Helper()
	return &pair{t: t, why: "a pair", w: newWorld(t, s, there...), by: newWorld(t, s, there...)}
}

func (p *pair) alike(what string) {
	p.t.Helper()
	sameSight(p.t, "P16.3: "+p.why+": "+what, sightOf(p.w), sightOf(p.by))
}

func (p *pair) plan(x api.Plan) {
	p.w.d.Plan(x)
	p.by.d.Plan(x)
}

func (p *pair) begin(was api.Manifest, has bool, mark, page int) api.Errno {
	p.t.Helper()
	j, e := ckpt.Begin(p.w.d, p.w.values, p.w.procs, was, has, mark, page)
	slow, want := slowBegin(p.by, was, has, mark, page)
	if e != want || (j == nil) != (slow == nil) {
		p.t.Errorf("P16.2: %s: Begin(%v, %v, %d, %d): %v, %v, not %v", p.why, was, has, mark, page, j, e, want)
	}
	if j != nil && slow != nil {
		p.j, p.slow = j, slow
	}
	p.alike("Begin")
	return want
}

func (p *pair) step(n int) (api.Manifest, bool, api.Errno) {
	p.t.Helper()
	m, is, e := p.j.Step(n)
	wm, wis, we := p.slow.step(n)
	if m != wm || is != wis || e != we {
		p.t.Errorf("P16.3: %s: Step(%d): %v, %v, %v, not %v, %v, %v", p.why, n, m, is, e, wm, wis, we)
	}
	p.alike(fmt.Sprintf("Step(%d)", n))
	return wm, wis, we
}

func (p *pair) drop() {
	p.t.Helper()
	p.j.Drop()
	p.slow.drop()
	p.alike("Drop")
}

func (p *pair) collect(m api.Manifest, has bool) api.Errno {
	p.t.Helper()
	e, want := ckpt.Collect(p.w.d, m, has), slowCollect(p.by.d, m, has)
	if e != want {
		p.t.Errorf("P16.5: %s: Collect(%v, %v): %v, not %v", p.why, m, has, e, want)
	}
	p.alike("Collect")
	return want
}

func (p *pair) crash(x api.Picks) {
	p.t.Helper()
	p.w.d.Crash(x)
	p.by.d.Crash(x)
	p.alike("Crash")
}

// each does something to both worlds.
func (p *pair) each(do func(w world)) {
	do(p.w)
	do(p.by)
}
