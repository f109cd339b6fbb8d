package audit_test

import (
	"fmt"
	"slices"
	"testing"

	"treadle/api"
	"treadle/audit"
)

// P20.1: which segments are needed: without a manifest from the number 1 on, with one from the greatest number on that is at most base + 1.
func TestNeededSegments(t *testing.T) {
	dir{seg(1, 1)}.found(t, api.Opened{Last: 1, Replayed: 1}, []api.Segment{size(1, 1)}, logName(1))
	dir{seg(2, 1)}.damaged(t)
	dir{seg(2, 1), seg(3, 1)}.damaged(t)
	dir{seg(most, 1)}.damaged(t)
	for base := range 6 {
		x, head := marked(base), []string{"manifest", ckptName(4)}
		x.found(t, api.Opened{Base: base, Last: base}, nil, head...)
		x.with(seg(base+1, 2)).found(t, api.Opened{Base: base, Last: base + 2, Replayed: 2}, []api.Segment{size(base+1, 2)}, append(head, logName(base+1))...)
		x.with(seg(base+2, 2)).damaged(t, head...)
		x.with(seg(base+2, 2), seg(base+4, 1)).damaged(t, head...)
		if base == 0 {
			continue
		}
		x.with(seg(base, 1, 2)).found(t, api.Opened{Base: base, Last: base + 2, Replayed: 2}, []api.Segment{size(base, 1, 2)}, append(head, logName(base))...)
		x.with(seg(base, 1), seg(base+1, 2), seg(base+3, 1)).found(t, api.Opened{Base: base, Last: base + 3, Replayed: 3},
			append(unread(base), size(base+1, 2), size(base+3, 1)), append(head, logName(base+1), logName(base+3))...)
		x.with(seg(base, 1, 1), seg(base+2, 1)).found(t, api.Opened{Base: base, Last: base + 2, Replayed: 2},
			[]api.Segment{size(base, 1, 1), size(base+2, 1)}, append(head, logName(base), logName(base+2))...)
	}
}

// P20.1: one in the midst is missing, or goes back; the one behind the gap is read ahead of that, and none behind it.
func TestGap(t *testing.T) {
	log := func(firsts ...int) []string {
		var out []string
		for _, n := range firsts {
			out = append(out, logName(n))
		}
		return out
	}
	dir{seg(1, 2), seg(3, 1)}.found(t, api.Opened{Last: 3, Replayed: 3}, []api.Segment{size(1, 2), size(3, 1)}, log(1, 3)...)
	dir{seg(1, 2), seg(4, 1)}.damaged(t, log(1, 4)...)
	dir{seg(1, 2), seg(2, 1)}.damaged(t, log(1, 2)...)
	dir{seg(1, 2), seg(4)}.damaged(t, log(1, 4)...)
	dir{seg(1, 2), seg(4, 1), seg(5, 1), seg(7, 1)}.damaged(t, log(1, 4)...)
	dir{seg(1, 2), seg(3, 1), seg(5, 1), seg(6, 1)}.damaged(t, log(1, 3, 5)...)
	dir{seg(1, 2), seg(3, 1), seg(4, 1), seg(most, 1)}.damaged(t, log(1, 3, 4, most)...)
	dir{seg(3, 1), seg(4, 1)}.damaged(t)
	// Ahead of the needed ones a gap is none.
	marked(5).with(seg(1, 1), seg(5, 1, 1)).found(t, api.Opened{Base: 5, Last: 6, Replayed: 1}, append(unread(1), size(5, 1, 1)), "manifest", ckptName(4), logName(5))
	marked(5).with(seg(1, 1), seg(5, 1), seg(7, 1)).damaged(t, "manifest", ckptName(4), logName(5), logName(7))
}

// P20.1: a segment without a batch, as the last one and elsewhere.
func TestWithoutBatch(t *testing.T) {
	one, two, three, four := logName(1), logName(2), logName(3), logName(4)
	dir{seg(1)}.found(t, api.Opened{}, unread(1), one)
	dir{seg(1), seg(2, 1)}.damaged(t, one, two)
	dir{seg(1), seg(2)}.damaged(t, one, two)
	dir{seg(1), seg(2), seg(3)}.damaged(t, one, two)
	dir{seg(1, 2), seg(3)}.found(t, api.Opened{Last: 2, Replayed: 2}, []api.Segment{size(1, 2), size(3)}, one, three)
	dir{seg(1, 2), seg(3), seg(4, 1)}.damaged(t, one, three, four)
	// Bytes that are no batch are torn: it is damaged ahead of the one behind it.
	dir{file(one, []byte{7}), seg(2, 1)}.damaged(t, one)
	dir{seg(1, 2), file(three, []byte{7}), seg(4, 1)}.damaged(t, one, three)
	dir{seg(1, 2), file(three, []byte{7, 7})}.found(t, api.Opened{Last: 2, Replayed: 2, Torn: 2}, []api.Segment{size(1, 2), size(3)}, one, three)
	// Ahead of what is needed it is not looked at; there it is the last below the base.
	marked(3).with(seg(1), seg(4, 1)).found(t, api.Opened{Base: 3, Last: 4, Replayed: 1}, append(unread(1), size(4, 1)), "manifest", ckptName(4), four)
	marked(3).with(seg(4)).found(t, api.Opened{Base: 3, Last: 3}, unread(4), "manifest", ckptName(4), four)
	marked(3).with(seg(3)).damaged(t, "manifest", ckptName(4), three)
}

// tails is bytes that stand behind the batches up to a number and are none of them: torn ones, and whole frames that do not follow.
func tails(next int) [][]byte {
	whole := rows(next, 1)
	turned := slices.Clone(whole)
	turned[len(turned)-1] ^= 1
	again := rows(next+1, 1)
	return [][]byte{
		{1}, {0}, make([]byte, 7), make([]byte, 8), make([]byte, 100),
		whole[:8], whole[:7], whole[:len(whole)-1], turned,
		slices.Concat(turned, whole), again, slices.Concat(again, whole), slices.Concat(whole[:len(whole)-1], whole),
		sealed([]byte("no batch")), slices.Concat(sealed([]byte{0}), whole), rows(next+7, 3), rows(1, 1)[:5],
	}
}

// P20.1: torn bytes in the last segment, and elsewhere.
func TestTorn(t *testing.T) {
	one, three, four := logName(1), logName(3), logName(4)
	for _, tail := range tails(4) {
		n := len(tail)
		last := dir{seg(1, 2), seg(3, 1)}.more(three, tail...)
		last.found(t, api.Opened{Last: 3, Replayed: 3, Torn: n}, []api.Segment{size(1, 2), size(3, 1)}, one, three)
		last.with(seg(4, 1)).damaged(t, one, three)
		last.with(seg(4)).damaged(t, one, three)
		dir{seg(1, 2), seg(3, 1), file(four, tail)}.found(t, api.Opened{Last: 3, Replayed: 3, Torn: n}, []api.Segment{size(1, 2), size(3, 1), size(4)}, one, three, four)
		marked(3).with(seg(3, 1)).more(three, tail...).found(t, api.Opened{Base: 3, Last: 3, Torn: n}, []api.Segment{size(3, 1)}, "manifest", ckptName(4), three)
		// In a segment that is not needed they are of no account.
		marked(3).with(file(one, tail), seg(4, 2)).found(t, api.Opened{Base: 3, Last: 5, Replayed: 2}, append(unread(1), size(4, 2)), "manifest", ckptName(4), four)
		x := marked(3).with(seg(3, 1), seg(4, 1)).more(three, tail...)
		x.found(t, api.Opened{Base: 3, Last: 4, Replayed: 1}, append(unread(3), size(4, 1)), "manifest", ckptName(4), four)
	}
	for _, tail := range tails(3) {
		dir{seg(1, 2), seg(3, 1)}.more(one, tail...).damaged(t, one)
		dir{seg(1, 2)}.more(one, tail...).found(t, api.Opened{Last: 2, Replayed: 2, Torn: len(tail)}, []api.Segment{size(1, 2)}, one)
	}
}

// P20.1: a batch that goes on over the base, wherever its segment begins; one that ends there, or begins behind it, fits.
func TestOverTheBase(t *testing.T) {
	for base := 1; base < 6; base++ {
		for first := 1; first <= base; first++ {
			head := []string{"manifest", ckptName(4), logName(first)}
			x := marked(base)
			x.with(seg(first, base-first+2)).damaged(t, head...)
			x.with(seg(first, base-first+2, 1)).damaged(t, head...)
			x.with(seg(first, base-first+1, 2)).found(t, api.Opened{Base: base, Last: base + 2, Replayed: 2}, []api.Segment{size(first, base-first+1, 2)}, head...)
			// What stands behind is not read, damaged or not.
			x.with(seg(first, base-first+2), seg(base+2, 1)).damaged(t, head...)
			x.with(seg(first, base-first+2), seg(base+9, 1)).more(logName(first), 1).damaged(t, head...)
			if first < base {
				x.with(seg(first, base-first, 2)).damaged(t, head...)
				x.with(seg(first, base-first), seg(base, 2)).damaged(t, "manifest", ckptName(4), logName(base))
			}
		}
	}
	// In a segment that is not needed it is of no account.
	marked(3).with(seg(1, 9), seg(4, 1)).found(t, api.Opened{Base: 3, Last: 4, Replayed: 1}, append(unread(1), size(4, 1)), "manifest", ckptName(4), logName(4))
}

// P20.1: the last transaction is below the base, with and without torn bytes.
func TestBelowTheBase(t *testing.T) {
	for base := 1; base < 6; base++ {
		for first := 1; first <= base; first++ {
			for count := range base - first + 2 {
				x := marked(base).with(seg(first, slices.Repeat([]int{1}, count)...))
				whole := size(first, slices.Repeat([]int{1}, count)...)
				head := []string{"manifest", ckptName(4), logName(first)}
				if first+count-1 < base {
					x.damaged(t, head...)
					x.more(logName(first), 1, 2, 3).damaged(t, head...)
					continue
				}
				x.found(t, api.Opened{Base: base, Last: base}, []api.Segment{whole}, head...)
				x.more(logName(first), 1, 2, 3).found(t, api.Opened{Base: base, Last: base, Torn: 3}, []api.Segment{whole}, head...)
			}
		}
	}
}

// P20.1: the greatest numbers there are.
func TestGreatest(t *testing.T) {
	x := dir{man(of(most, most, most-2, most-1, 0)), ck(most, most-2)}
	head := []string{"manifest", ckptName(most)}
	x.with(seg(most-1, 1, 1)).found(t, api.Opened{Base: most - 2, Last: most, Replayed: 2}, []api.Segment{size(most-1, 1, 1)}, append(head, logName(most-1))...)
	x.with(seg(most-1, 1), seg(most, 1)).found(t, api.Opened{Base: most - 2, Last: most, Replayed: 2}, []api.Segment{size(most-1, 1), size(most, 1)}, append(head, logName(most-1), logName(most))...)
	x.with(seg(most, 1)).damaged(t, head...)
	full := dir{man(of(most, most, most, most-1, most-1)), ck(most, most)}
	full.found(t, api.Opened{Base: most, Last: most}, nil, head...)
	full.with(seg(most, 1)).found(t, api.Opened{Base: most, Last: most}, []api.Segment{size(most, 1)}, append(head, logName(most))...)
	full.with(seg(most)).damaged(t, append(head, logName(most))...)
	full.without(ckptName(most)).with(ck(most-1, most-1), seg(most, 1)).found(t, api.Opened{Base: most - 1, Last: most, Replayed: 1}, []api.Segment{size(most, 1)}, "manifest", ckptName(most-1), logName(most))
	marked(most-1).with(seg(most)).found(t, api.Opened{Base: most - 1, Last: most - 1}, unread(most), "manifest", ckptName(4), logName(most))
}

// P20.1: the Sizes: of a segment that is read its batches, of another one 0, though it has bytes.
func TestSizes(t *testing.T) {
	for base := range 12 {
		x := marked(base).with(seg(1, 1, 1), seg(3, 2), seg(5, 1, 2), seg(8, 1), seg(9, 1, 1, 1)).more(logName(9), make([]byte, 9)...)
		all := []api.Segment{size(1, 1, 1), size(3, 2), size(5, 1, 2), size(8, 1), size(9, 1, 1, 1)}
		needed := []string{"manifest", ckptName(4)}
		for i := range all {
			if i < len(all)-1 && all[i+1].First <= base+1 {
				all[i].Size = 0
				continue
			}
			needed = append(needed, logName(all[i].First))
		}
		switch base {
		case 3, 6: // within a batch
			x.damaged(t, needed[:3]...)
		default:
			x.found(t, api.Opened{Base: base, Last: 11, Replayed: 11 - base, Torn: 9}, all, needed...)
		}
	}
}

// P20.1, W1: more files, and longer ones, than a disk takes.
func TestMoreThanADiskTakes(t *testing.T) {
	var x dir
	var sizes []api.Segment
	var needed []string
	for n := 1; n <= 3000; n++ {
		x = append(dir{seg(n, 1)}, x...)
		sizes, needed = append(sizes, size(n, 1)), append(needed, logName(n))
	}
	want := api.Report{Opened: api.Opened{Last: 3000, Replayed: 3000}, Segments: sizes, Needed: needed}
	if got := audit.Look(x); !same(got, want) {
		t.Errorf("P20.1: %d segments: %v, %+v", len(x), got.Err, got.Opened)
	}
	long := dir{seg(1, 1)}.more(logName(1), make([]byte, api.MaxRoom)...).with(file("x", make([]byte, api.MaxRoom+1)))
	want = api.Report{Opened: api.Opened{Last: 1, Replayed: 1, Torn: api.MaxRoom}, Segments: []api.Segment{size(1, 1)}, Needed: []string{logName(1)}, Others: []string{"x"}}
	if got := audit.Look(long); !same(got, want) {
		t.Errorf("P20.1: long files: %+v", got)
	}
}

// harm is something that makes a directory one that does not fit together.
type harm struct {
	what string
	do   func(dir) dir
}

// harms is each damage that an opening finds, made in two().
func harms() []harm {
	return []harm{
		{"a manifest of no bytes", func(x dir) dir { return x.with(file("manifest", nil)) }},
		{"a torn manifest", func(x dir) dir { return x.with(file("manifest", two().bytes("manifest")[:20])) }},
		{"bytes behind the manifest", func(x dir) dir { return x.more("manifest", 0) }},
		{"no checkpoint", func(x dir) dir { return x.without(ckptName(9), ckptName(5)) }},
		{"torn checkpoints", func(x dir) dir { return x.cut(ckptName(9), 1).cut(ckptName(5), 1) }},
		{"checkpoints of others", func(x dir) dir { return x.with(file(ckptName(9), image(5, 3)), file(ckptName(5), image(9, 6))) }},
		{"the one ahead, that is not reached", func(x dir) dir { return x.cut(ckptName(9), 1).without(logName(1), logName(3)) }},
		{"no one ahead", func(x dir) dir { return x.without(ckptName(9)).with(man(of(7, 9, 6, 0, 0))) }},
		{"no needed segment", func(x dir) dir { return x.without(logName(1), logName(3), logName(5), logName(7)).with(seg(8, 1)) }},
		{"a gap", func(x dir) dir { return x.without(logName(7)).with(seg(5, 1, 1), seg(9, 1)) }},
		{"one without a batch in the midst", func(x dir) dir { return x.with(file(logName(7), nil), seg(8, 1)) }},
		{"torn bytes in the midst", func(x dir) dir { return x.more(logName(7), 1) }},
		{"a batch over the base", func(x dir) dir { return x.without(logName(7)).with(seg(5, 3)) }},
		{"a last transaction below the base", func(x dir) dir { return x.without(logName(7), logName(8)).with(seg(5, 1)) }},
	}
}

// P20.1: each damage by itself, and two at once, each ahead of the other: Err, what is needed up to there, and what the manifest says; all else is zero.
func TestTwoDamages(t *testing.T) {
	seen := map[string]int{}
	for _, one := range harms() {
		for _, other := range append(harms(), harm{"nothing else", func(x dir) dir { return x }}) {
			x := safely(one.do, safely(other.do, two()))
			why := one.what + ", " + other.what
			got := agrees(t, why, x)
			readsInOrder(t, why, x, got)
			bare := api.Report{Err: api.ErrDamage, Has: got.Has, Manifest: got.Manifest, Needed: got.Needed, Left: got.Left}
			if !same(got, bare) || len(got.Needed) > 0 && (got.Needed[0] == "manifest") != (x.has("manifest")) {
				t.Errorf("P20.1: %s: %+v", why, got)
			}
			seen[fmt.Sprint(got.Needed)]++
		}
	}
	if len(seen) < 8 {
		t.Errorf("the damages are too much alike: %v", seen)
	}
}

func (x dir) has(name string) bool {
	return slices.ContainsFunc(x, func(f api.FileBytes) bool { return f.Name == name })
}

// safely does something to a directory, if the files are there that it is about.
func safely(do func(dir) dir, x dir) (out dir) {
	defer func() {
		if recover() != nil {
			out = x
		}
	}()
	return do(x)
}
