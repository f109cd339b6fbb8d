package audit_test

import (
	"slices"
	"strings"
	"testing"

	"treadle/api"
	"treadle/audit"
)

// The chapter's examples, row by row.
func TestExamples(t *testing.T) {
	dir{}.told(t, api.Report{})
	dir{file("x", nil), file("manifest.new", nil)}.told(t, api.Report{Left: []string{"manifest.new"}, Others: []string{"x"}})
	dir{file("x", nil), file("x", nil)}.told(t, api.Report{Err: api.ErrArg})
	one := logName(1)
	torn := dir{seg(1, 1, 1)}.more(one, 1, 2, 3, 4, 5)
	torn.told(t, api.Report{Opened: api.Opened{Last: 2, Replayed: 2, Torn: 5}, Segments: []api.Segment{size(1, 1, 1)}, Needed: []string{one}})
	dir{file(logName(2), torn.bytes(one))}.told(t, api.Report{Err: api.ErrDamage, Left: []string{logName(2)}})
	dir{file("manifest", nil)}.told(t, api.Report{Err: api.ErrDamage, Needed: []string{"manifest"}})
	m := of(1, 2, 3, 0, 0)
	dir{man(m)}.told(t, api.Report{Err: api.ErrDamage, Has: true, Manifest: m, Needed: []string{"manifest"}})
}

// The examples of chapter 17, as an audit tells them.
func TestOpeningExamples(t *testing.T) {
	one, three, five := logName(1), logName(3), logName(5)
	log := dir{seg(1, 1, 1), seg(3)}
	log.found(t, api.Opened{Last: 2, Replayed: 2}, []api.Segment{size(1, 1, 1), size(3)}, one, three)
	log.more(one, 1, 2, 3, 4, 5).damaged(t, one)
	x := marked(2).with(seg(1, 1, 1), seg(3, 1))
	x.found(t, api.Opened{Base: 2, Last: 3, Replayed: 1}, append(unread(1), size(3, 1)), "manifest", ckptName(4), three)
	x.without(three).found(t, api.Opened{Base: 2, Last: 2}, []api.Segment{size(1, 1, 1)}, "manifest", ckptName(4), one)
	marked(2).with(file(five, rows(5, 1))).damaged(t, "manifest", ckptName(4))
}

// P20.1: no file: a nil list, an empty one, one with spare room.
func TestNoFile(t *testing.T) {
	for _, x := range [][]api.FileBytes{nil, {}, dir{seg(2, 1), seg(2, 1)}[:0]} {
		if got := audit.Look(x); !same(got, api.Report{}) {
			t.Errorf("P20.1: no file: %+v", got)
		}
	}
}

// P20.1: a name that stands twice, anywhere, with the same bytes or with others, alone and beside damage.
func TestTwice(t *testing.T) {
	arg := api.Report{Err: api.ErrArg}
	beside := []dir{{}, {seg(1, 1, 1)}, two(), {file("manifest", nil)}, {seg(2, 1)}, marked(3).without(ckptName(4)), two().cut(logName(3), 1), {file("b", nil), file("c", nil)}}
	names := []string{"", "x", "manifest", "manifest.new", logName(1), logName(7), ckptName(4), ckptName(9), "log-1", "\x00", "a b", "é", strings.Repeat("long", 100)}
	for _, x := range beside {
		for _, name := range names {
			x := x.without(name)
			for _, data := range [][]byte{nil, {1}, rows(1, 1)} {
				other := file(name, append(slices.Clone(data), 0))
				for _, twin := range []api.FileBytes{file(name, data), other} {
					slices.Concat(dir{file(name, data), twin}, x).told(t, arg)
					slices.Concat(dir{file(name, data)}, x, dir{twin}).told(t, arg)
					slices.Concat(x, dir{twin, other, file(name, data)}).told(t, arg)
				}
			}
		}
	}
	for _, x := range beside {
		if len(x) > 0 {
			slices.Concat(x, x).told(t, arg)
			slices.Concat(x, x[len(x)-1:]).told(t, arg)
		}
	}
}

// P20.1: names that are nearly the same are two.
func TestNearlyTwice(t *testing.T) {
	dir{file("x", nil), file("X", nil), file("x\x00", nil), file("\x00x", nil), file("x ", nil), file("", nil), file("\x00", nil), file("e\u0301", nil), file("\u00e9", nil), file("\xe9", nil)}.told(t,
		api.Report{Others: []string{"", "\x00", "\x00x", "X", "e\u0301", "x", "x\x00", "x ", "\u00e9", "\xe9"}})
}

// P20.1: the manifest: whole, cut off at each place, each byte of it turned, more behind it, one that may not be.
func TestManifest(t *testing.T) {
	x := dir{man(of(7, 300, 2, 200, 1)), ck(300, 2), ck(200, 1), seg(1, 2), seg(3, 1)}
	x.found(t, api.Opened{Base: 2, Last: 3, Replayed: 1}, append(unread(1), size(3, 1)), "manifest", ckptName(300), logName(3))
	x.without("manifest").found(t, api.Opened{Last: 3, Replayed: 3}, []api.Segment{size(1, 2), size(3, 1)}, logName(1), logName(3))
	data := x.bytes("manifest")
	for i := range data {
		x.with(file("manifest", data[:i])).damaged(t, "manifest")
		x.turned("manifest", i).damaged(t, "manifest")
	}
	x.more("manifest", 0).damaged(t, "manifest")
	x.more("manifest", 1, 2, 3).damaged(t, "manifest")
	x.more("manifest", data...).damaged(t, "manifest")
	x.with(file("manifest", image(300, 2))).damaged(t, "manifest")
	x.with(file("manifest", rows(1, 1))).damaged(t, "manifest")
	// Frames that sum up, and say what may not be: Number 0, Prev as great as File, PrevMark as great as Mark.
	may := append([]byte{8}, "manifest"...)
	for _, rest := range [][]byte{{0, 4, 2, 0, 0}, {1, 4, 2, 4, 0}, {1, 4, 2, 3, 2}, {1, 4, 2, 0, 1}, {1, 0, 2, 0, 0}, {1, 4, 2, 0, 0, 0}, {1, 4, 2, 0}} {
		x.with(ck(4, 2), file("manifest", sealed(append(slices.Clone(may), rest...)))).damaged(t, "manifest")
	}
	x.with(ck(4, 2), file("manifest", sealed(append(may, 1, 4, 2, 0, 0)))).found(t, api.Opened{Base: 2, Last: 3, Replayed: 1}, append(unread(1), size(3, 1)), "manifest", ckptName(4), logName(3))
	// One that waits for its name is of no account, though it is whole.
	x.without("manifest").with(file("manifest.new", data)).found(t, api.Opened{Last: 3, Replayed: 3}, []api.Segment{size(1, 2), size(3, 1)}, logName(1), logName(3))
}

// P20.1: what a manifest says is told, whatever comes behind it.
func TestManifestTold(t *testing.T) {
	for _, m := range []api.Manifest{of(1, 1, 0, 0, 0), of(1, 4, 3, 0, 0), of(most, most, most, most-1, most-1), of(2, 9, 6, 5, 0), of(300, 70000, 1<<40, 128, 127)} {
		x := dir{man(m)}
		if got := audit.Look(x); got.Err != api.ErrDamage || !got.Has || got.Manifest != m {
			t.Errorf("P20.1: %+v: %+v", m, got)
		}
		x.damaged(t, "manifest")
		x = x.with(ck(m.File, m.Mark))
		x.found(t, api.Opened{Base: m.Mark, Last: m.Mark}, nil, "manifest", ckptName(m.File))
	}
}

// P20.1: the checkpoint: missing, another's, cut off at each place, each byte turned, more behind it; none ahead of it.
func TestCheckpoint(t *testing.T) {
	name, log := ckptName(4), logName(4)
	x := marked(3).with(seg(4, 2), ck(3, 3), ck(5, 3))
	x.found(t, api.Opened{Base: 3, Last: 5, Replayed: 2}, []api.Segment{size(4, 2)}, "manifest", name, log)
	x.without(name).damaged(t, "manifest")
	for _, data := range [][]byte{nil, {0}, image(3, 3), image(5, 3), image(4, 2), image(4, 4), image(4, 0), rows(4, 2), x.bytes("manifest")} {
		x.with(file(name, data)).damaged(t, "manifest", name)
	}
	data := x.bytes(name)
	for i := range data {
		x.with(file(name, data[:i])).damaged(t, "manifest", name)
		x.turned(name, i).damaged(t, "manifest", name)
	}
	x.more(name, 0).damaged(t, "manifest", name)
	x.more(name, data...).damaged(t, "manifest", name)
	// Its own number, in a file that is called otherwise.
	x.without(name).with(file(ckptName(6), data)).damaged(t, "manifest")
}

// unfit is what makes the checkpoint of a number and a mark one that does not fit: whether it is read then, and its bytes.
type unfit struct {
	read bool
	data []byte
}

func unfits(number, mark int) []unfit {
	whole := image(number, mark)
	return []unfit{{false, nil}, {true, nil}, {true, whole[:len(whole)-1]}, {true, append(slices.Clone(whole), 0)}, {true, image(number+1, mark)}, {true, image(number, mark+1)}}
}

// put lays it into a directory, and tells which of these names are read then.
func (u unfit) put(x dir, name string) (dir, []string) {
	if !u.read {
		return x.without(name), nil
	}
	return x.with(file(name, u.data)), []string{name}
}

// P20.1: the one ahead is taken, if the checkpoint does not fit and the log reaches it.
func TestAhead(t *testing.T) {
	nine, five := ckptName(9), ckptName(5)
	logs := []string{logName(3), logName(5), logName(7), logName(8)}
	sizes := []api.Segment{{First: 1}, size(3, 1, 1), size(5, 2), size(7, 1), size(8, 1)}
	two().found(t, api.Opened{Base: 6, Last: 8, Replayed: 2}, append(unread(1, 3, 5), size(7, 1), size(8, 1)), "manifest", nine, logName(7), logName(8))
	for _, u := range unfits(9, 6) {
		x, read := u.put(two(), nine)
		read = append([]string{"manifest"}, read...)
		ahead := append(slices.Clone(read), five)
		x.found(t, api.Opened{Base: 3, Last: 8, Replayed: 5}, sizes, append(slices.Clone(ahead), logs...)...)
		// The log reaches it, by any segment whose number is at most 4, whatever is in it; else it is not read.
		x.without(logName(1)).found(t, api.Opened{Base: 3, Last: 8, Replayed: 5}, sizes[1:], append(slices.Clone(ahead), logs...)...)
		x.without(logName(1), logName(3)).damaged(t, read...)
		x.without(logName(1), logName(3)).with(seg(4, 1)).found(t, api.Opened{Base: 3, Last: 8, Replayed: 5}, append([]api.Segment{size(4, 1)}, sizes[2:]...), append(append(slices.Clone(ahead), logName(4)), logs[1:]...)...)
		x.without(logName(3)).with(file(logName(1), nil)).damaged(t, append(slices.Clone(ahead), logName(1), logName(5))...)
		x.without(logName(1), logName(3), logName(5), logName(7), logName(8)).damaged(t, read...)
		// It does not fit either.
		for _, v := range unfits(5, 3) {
			y, more := v.put(x, five)
			y.damaged(t, append(slices.Clone(read), more...)...)
			y.without(logName(1), logName(3)).damaged(t, read...)
		}
		// There is none ahead: what looks like one is of no account.
		alone := x.with(man(of(7, 9, 6, 0, 0)))
		alone.damaged(t, read...)
		alone.with(ck(5, 0), ck(8, 3)).damaged(t, read...)
	}
	// It is not looked at where the checkpoint fits.
	for _, v := range unfits(5, 3) {
		x, _ := v.put(two(), five)
		x.found(t, api.Opened{Base: 6, Last: 8, Replayed: 2}, append(unread(1, 3, 5), size(7, 1), size(8, 1)), "manifest", nine, logName(7), logName(8))
	}
}

// P20.1: one ahead with the mark 0 is one: it is its number that tells.
func TestAheadOfNothing(t *testing.T) {
	x := dir{man(of(2, 9, 2, 5, 0)), ck(5, 0), seg(1, 2, 1)}
	x.found(t, api.Opened{Last: 3, Replayed: 3}, []api.Segment{size(1, 2, 1)}, "manifest", ckptName(5), logName(1))
	x.with(ck(9, 2)).found(t, api.Opened{Base: 2, Last: 3, Replayed: 1}, []api.Segment{size(1, 2, 1)}, "manifest", ckptName(9), logName(1))
	dir{man(of(2, 9, 2, 5, 0)), ck(5, 0), seg(2, 1)}.damaged(t, "manifest")
	dir{man(of(2, 9, 2, 5, 0)), ck(5, 0)}.damaged(t, "manifest")
}
