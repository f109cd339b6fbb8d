package page_test

import (
	"bytes"
	"testing"

	"treadle/api"
	"treadle/page"
)

// P14.5: what was handed to Page is what Read says, whatever the pieces were; cut alike the bytes are alike.
func TestPieces(t *testing.T) {
	for _, x := range []piece{
		{}, {someProcs(), nil}, {nil, someEntries()}, {someProcs(), someEntries()},
		{procsFrom(0, 5), keysFrom(0, 400)}, {procsFrom(0, 300), keysFrom(0, 5)}, {procsFrom(0, 140), keysFrom(0, 140)},
	} {
		want := api.Image{Number: 9, Mark: 12, Procs: x.procs, Entries: x.entries}
		for _, sizes := range [][]int{{1}, {2}, {3}, {7}, {127}, {128}, {1, 128}, {5, 1, 40}, {2, 3, 5, 7, 11, 13}} {
			cuts := cut(x.procs, x.entries, sizes...)
			w, other := begun(t, 9, 12), begun(t, 9, 12)
			var b []byte
			for _, p := range cuts { // side by side
				got := paged(t, w, p.procs, p.entries)
				if !bytes.Equal(got, paged(t, other, p.procs, p.entries)) {
					t.Errorf("P14.5: two Writers give out other bytes")
				}
				b = append(b, got...)
				refused(t, b, api.ErrShort)
			}
			end := ended(t, w)
			if !bytes.Equal(end, ended(t, other)) {
				t.Errorf("P14.5: two Writers give out other bytes")
			}
			b = append(b, end...)
			reads(t, b, want, api.OK)
			if e := agrees(t, b); e != api.OK {
				t.Errorf("P14.5: %v", e)
			}
			if !bytes.Equal(b, written(t, 9, 12, cuts...)) {
				t.Errorf("P14.5: another Writer gives out other bytes")
			}
		}
	}
}

// P14.5: two Writers to which things happen by turns hang on nothing of each other.
func TestSideBySide(t *testing.T) {
	p, q := paired(t, 1, 7), paired(t, 2, 0)
	p.takes(named("m"), nil)
	q.takes(named("a"), ones("x"))
	p.takes(named("n"), nil)
	q.refuses(named("z"), nil, api.ErrOrder)
	p.takes(nil, ones("b"))
	q.takes(nil, ones("y"))
	q.end()
	p.takes(nil, ones("c"))
	p.end()
	agrees(t, p.b)
	agrees(t, q.b)
}

// P14.5: each beginning of a file, written in several ways, is refused: ErrShort or ErrTorn.
func TestBeginnings(t *testing.T) {
	for _, b := range [][]byte{
		written(t, 1, 7), written(t, api.MaxNumber, 0, piece{nil, ones("a")}), written(t, 1, 7, piece{someProcs()[5:], someEntries()[:5]}),
		written(t, 1, 7, cut(named("a", "b"), ones("a", "b", "c"), 1)...), written(t, 1, 7, cut(procsFrom(0, 3), keysFrom(0, 100), 30)...),
	} {
		for i := range b {
			if _, e := page.Read(b[:i]); e != api.ErrShort && e != api.ErrTorn {
				t.Errorf("P14.5: %d bytes of %d: %v", i, len(b), e)
			}
			agrees(t, b[:i])
		}
	}
}

// P14.6: what Read takes, handed to a Writer with the procedures in other pieces than they had.
func TestAgain(t *testing.T) {
	bodies, m := sample()
	b := framed(bodies...)
	for _, pieces := range [][]piece{
		{{m.Procs, m.Entries[:2]}, {nil, m.Entries[2:3]}, {nil, m.Entries[3:]}},
		{{m.Procs, nil}, {nil, m.Entries[:2]}, {nil, m.Entries[2:3]}, {nil, m.Entries[3:]}},
		{{m.Procs[:1], nil}, {m.Procs[1:], m.Entries[:2]}, {nil, m.Entries[2:3]}, {nil, m.Entries[3:]}},
		{{m.Procs[:1], nil}, {m.Procs[1:], nil}, {nil, m.Entries[:2]}, {nil, m.Entries[2:3]}, {nil, m.Entries[3:]}},
	} {
		if got := written(t, m.Number, m.Mark, pieces...); !bytes.Equal(got, b) {
			t.Errorf("P14.6: %x, not %x", got, b)
		}
	}
	// Other frames of entries are other bytes, of the same image.
	other := written(t, m.Number, m.Mark, piece{m.Procs, m.Entries})
	if bytes.Equal(other, b) {
		t.Errorf("P14.2: the entries of one piece stand in one frame")
	}
	reads(t, other, m, api.OK)
}
