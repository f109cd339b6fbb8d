package seglog_test

import (
	"encoding/binary"
	"hash/crc32"
	"math/rand"
	"slices"
	"strconv"
	"strings"
	"testing"

	"treadle/api"
	"treadle/batch"
	"treadle/disk"
	"treadle/seglog"
)

// What the chapter says, done slowly. A frame is chapter 4's, written here anew; the bytes of a batch are asked of chapter 12,
// and the disk is chapter 3's, as the chapter does.

// slowName is Name as the chapter says it.
func slowName(first int) string {
	if first < 1 || first > 281474976710655 {
		return ""
	}
	s := strconv.FormatInt(int64(first), 16)
	for len(s) < 12 {
		s = "0" + s
	}
	return "log-" + s
}

// slowFirst is First as the chapter says it.
func slowFirst(name string) (int, bool) {
	rest, is := strings.CutPrefix(name, "log-")
	if !is || len(rest) != 12 || strings.Trim(rest, "0123456789abcdef") != "" {
		return 0, false
	}
	n, err := strconv.ParseInt(rest, 16, 64)
	return int(n), err == nil && n > 0
}

var castagnoli = crc32.MakeTable(crc32.Castagnoli)

// framed is the frame of a body.
func framed(body []byte) []byte {
	head := binary.LittleEndian.AppendUint32(nil, uint32(len(body)))
	head = binary.LittleEndian.AppendUint32(head, crc32.Checksum(slices.Concat(head, body), castagnoli))
	return append(head, body...)
}

// slowWhole is the body of the frame at the beginning, if one stands there whole.
func slowWhole(b []byte) ([]byte, bool) {
	if len(b) < 8 {
		return nil, false
	}
	n := binary.LittleEndian.Uint32(b)
	if n == 0 || n > 65536 || int(n) > len(b)-8 {
		return nil, false
	}
	body := b[8 : 8+n]
	return body, binary.LittleEndian.Uint32(b[4:]) == crc32.Checksum(slices.Concat(b[:4], body), castagnoli)
}

// slowScan is what Scan goes through as the chapter says it.
func slowScan(data []byte, first int) []step {
	var out []step
	at := 0
	for {
		body, whole := slowWhole(data[at:])
		if !whole {
			return out
		}
		b, e := batch.Decode(body)
		if e != api.OK || b.First != first {
			return out
		}
		at += 8 + len(body)
		first = b.First + len(b.Txns)
		out = append(out, step{b, at})
	}
}

// segmentOf is a segment's bytes of batches that follow one another.
func segmentOf(first int, txns ...[]api.Txn) []byte {
	var out []byte
	for _, x := range txns {
		out = append(out, framed(bodyOf(from(first, x...)))...)
		first += len(x)
	}
	return out
}

type slowWait struct {
	first int
	row   []byte
}

// slowLog is a Log as the chapter says it, on a disk of its own.
type slowLog struct {
	d             *disk.Disk
	limit         int
	segments      []api.Segment
	next, durable int
	waits         []slowWait
	broken        bool
}

// slowStart is Start as the chapter says it.
func slowStart(d *disk.Disk, limit int, segments []api.Segment, next int) (*slowLog, api.Errno) {
	if d == nil || limit < 1 || limit > 4194304 || next < 1 || next > 281474976710656 {
		return nil, api.ErrArg
	}
	for i, s := range segments {
		if s.First < 1 || s.First > next || s.First > 281474976710655 || s.Size < 0 || s.Size > 4194304 {
			return nil, api.ErrArg
		}
		if i > 0 && segments[i-1].First >= s.First {
			return nil, api.ErrArg
		}
	}
	return &slowLog{d: d, limit: limit, segments: slices.Clone(segments), next: next, durable: next - 1}, api.OK
}

func (m *slowLog) append(txns []api.Txn) (int, api.Errno) {
	if m.broken {
		return 0, api.ErrBroken
	}
	if m.next > 281474976710656-len(txns) {
		return 0, api.ErrNumber
	}
	body, e := batch.Encode(from(m.next, txns...))
	if e != api.OK {
		return 0, e
	}
	m.waits = append(m.waits, slowWait{m.next, framed(body)})
	m.next += len(txns)
	return m.next - len(txns), api.OK
}

func (m *slowLog) last() *api.Segment { return &m.segments[len(m.segments)-1] }

func (m *slowLog) write(gathered []byte) api.Errno {
	if e := m.d.Append(slowName(m.last().First), gathered); e != api.OK {
		return e
	}
	return m.d.Sync(slowName(m.last().First))
}

func (m *slowLog) flush() api.Errno {
	if m.broken {
		return api.ErrBroken
	}
	if len(m.waits) == 0 {
		return api.OK
	}
	waits := m.waits
	m.waits, m.broken = nil, true
	var gathered []byte
	created := false
	for _, w := range waits {
		if len(m.segments) == 0 || m.last().Size > 0 && m.last().Size+len(w.row) > m.limit {
			if len(gathered) > 0 {
				if e := m.write(gathered); e != api.OK {
					return e
				}
				gathered = nil
			}
			if e := m.d.Create(slowName(w.first)); e != api.OK {
				return e
			}
			m.segments = append(m.segments, api.Segment{First: w.first})
			created = true
		}
		gathered = append(gathered, w.row...)
		m.last().Size += len(w.row)
	}
	if e := m.write(gathered); e != api.OK {
		return e
	}
	if created {
		if e := m.d.SyncNames(); e != api.OK {
			return e
		}
	}
	m.broken = false
	m.durable = m.next - 1
	return api.OK
}

func (m *slowLog) trim(upto int) api.Errno {
	if m.broken {
		return api.ErrBroken
	}
	if upto < 0 {
		return api.ErrArg
	}
	removed := false
	for len(m.segments) >= 2 && m.segments[1].First <= min(upto, 1<<60)+1 {
		if e := m.d.Remove(slowName(m.segments[0].First)); e != api.OK {
			return e
		}
		m.segments = m.segments[1:]
		removed = true
	}
	if removed {
		return m.d.SyncNames()
	}
	return api.OK
}

// pair is a Log and the chapter's words, each on a disk of its own, to which the same things happen.
type pair struct {
	t testing.TB
	l *seglog.Log
	d *disk.Disk
	m *slowLog
}

// paired is a pair over files that both disks are handed.
func paired(t testing.TB, room, files, limit int, there []api.FileBytes, segments []api.Segment, next int) *pair {
	t.Helper()
	p := &pair{t: t, d: newDisk(t, room, files)}
	twin := newDisk(t, room, files)
	for _, f := range there {
		if p.d.Hand(f.Name, f.Data) != api.OK || twin.Hand(f.Name, f.Data) != api.OK {
			t.Fatal("a file is not taken")
		}
	}
	l, e := seglog.Start(p.d, limit, segments, next)
	m, want := slowStart(twin, limit, segments, next)
	if e != want || e != api.OK {
		t.Fatalf("P13.3: Start(limit %d, %v, next %d): %v, not %v", limit, segments, next, e, want)
	}
	p.l, p.m = l, m
	p.alike("P13.3")
	return p
}

// alike holds all that both show against each other.
func (p *pair) alike(why string) {
	p.t.Helper()
	tells(p.t, p.l, p.m.next, p.m.durable, p.m.broken, p.m.segments...)
	sameDisk(p.t, why, p.d, p.m.d)
}

func (p *pair) plan(x api.Plan) {
	p.d.Plan(x)
	p.m.d.Plan(x)
}

func (p *pair) append(txns ...api.Txn) api.Errno {
	p.t.Helper()
	first, e := p.l.Append(txns)
	want, err := p.m.append(txns)
	if first != want || e != err {
		p.t.Errorf("P13.4: Append of %d: %d, %v, not %d, %v", len(txns), first, e, want, err)
	}
	p.alike("P13.4")
	return err
}

func (p *pair) flush() api.Errno {
	p.t.Helper()
	e, want := p.l.Flush(), p.m.flush()
	if e != want {
		p.t.Errorf("P13.5: Flush: %v, not %v", e, want)
	}
	p.alike("P13.5")
	return want
}

func (p *pair) trim(upto int) api.Errno {
	p.t.Helper()
	e, want := p.l.Trim(upto), p.m.trim(upto)
	if e != want {
		p.t.Errorf("P13.6: Trim(%d): %v, not %v", upto, e, want)
	}
	p.alike("P13.6")
	return want
}

// chance is what is picked at random, the same for the same seed.
type chance struct{ *rand.Rand }

func chanceOf(seed int64) chance { return chance{rand.New(rand.NewSource(seed))} }

// txns is a batch's transactions that chapter 12 takes, most of them short.
func (r chance) txns() []api.Txn {
	var out []api.Txn
	for range 1 + r.Intn(3) {
		switch r.Intn(4) {
		case 0:
			out = append(out, define(put2()))
		case 1:
			out = append(out, call("p"+long(r.Intn(20)), text(long(r.Intn(200)))))
		default:
			out = append(out, call("p", num(int64(r.Intn(1000))), nothing))
		}
	}
	return out
}

// wrong is transactions that are no batch's.
func (r chance) wrong() []api.Txn {
	return [][]api.Txn{nil, {}, make([]api.Txn, 65), {call("1p")}, {call("p"), {}}, {call("p", text(long(257)))}}[r.Intn(6)]
}
