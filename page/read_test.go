package page_test

import (
	"fmt"
	"math"
	"regexp"
	"slices"
	"testing"

	"treadle/api"
)

// sample is the bodies of a file with two procedures and three frames of entries, and its image.
func sample() ([][]byte, api.Image) {
	procs := []api.Proc{put2(), {Name: "q"}}
	entries := []api.Entry{one("a", 1), entry("b", text("xy")), one("ba", -7), entry("c", text("")), one("d", 300)}
	return [][]byte{
		headBody(0, 5, 300),
		procBody(1, procs[0]),
		procBody(2, procs[1]),
		entriesBody(3, entries[:2]...),
		entriesBody(4, entries[2]),
		entriesBody(5, entries[3:]...),
		endBody(6, 2, 5),
	}, api.Image{Number: 5, Mark: 300, Procs: procs, Entries: entries}
}

// with is the bodies with another one at a place.
func with(bodies [][]byte, place int, body []byte) [][]byte {
	out := slices.Clone(bodies)
	out[place] = body
	return out
}

// P14.4: the whole file, several frames of entries, of procedures, none of either.
func TestReadWhole(t *testing.T) {
	bodies, want := sample()
	reads(t, framed(bodies...), want, api.OK)
	agrees(t, framed(bodies...))
	reads(t, framed(headBody(0, 1, 0), endBody(1, 0, 0)), api.Image{Number: 1}, api.OK)
	reads(t, framed(headBody(0, 1, 0), procBody(1, put2()), endBody(2, 1, 0)), api.Image{Number: 1, Procs: []api.Proc{put2()}}, api.OK)
	reads(t, framed(headBody(0, 1, 0), entriesBody(1, one("a", 1)), endBody(2, 0, 1)), api.Image{Number: 1, Entries: []api.Entry{one("a", 1)}}, api.OK)
}

// P14.4: bytes that end at each place: between two frames ErrShort, elsewhere ErrTorn.
func TestEndsAnywhere(t *testing.T) {
	bodies, want := sample()
	b := framed(bodies...)
	borders := map[int]int{0: 1}
	for i := range bodies {
		borders[len(framed(bodies[:i+1]...))] = 1
	}
	for i := range b {
		err := api.ErrTorn
		if borders[i] == 1 {
			err = api.ErrShort
		}
		refused(t, b[:i], err)
		// The same, but nothing behind it is what it was.
		refused(t, append(slices.Clone(b[:i]), make([]byte, 9)...), api.ErrTorn)
	}
	reads(t, b, want, api.OK)
}

// P14.4: each byte of each frame changed to each other one: the frame is torn.
func TestBytesChanged(t *testing.T) {
	bodies, _ := sample()
	b := framed(bodies...)
	for i, was := range b {
		for c := range 256 {
			if byte(c) == was {
				continue
			}
			b[i] = byte(c)
			if e := agrees(t, b); e != api.ErrTorn {
				t.Errorf("P14.4: byte %d is %02x: %v", i, c, e)
			}
		}
		b[i] = was
	}
}

// P14.4: the first frame that is not what it has to be decides, whatever stands behind it.
func TestFirstFault(t *testing.T) {
	bodies, _ := sample()
	torn := func(b []byte) []byte {
		b = framed(b)
		b[len(b)-1] ^= 1
		return b
	}
	for i := range bodies {
		ahead := framed(bodies[:i]...)
		wrong := append(slices.Clone(bodies[i]), 0)
		for k := i + 1; k < len(bodies); k++ {
			between := framed(bodies[i+1 : k]...)
			refused(t, slices.Concat(ahead, framed(wrong), between, torn(bodies[k])), api.ErrForm)
			refused(t, slices.Concat(ahead, framed(wrong), between), api.ErrForm)
			refused(t, slices.Concat(ahead, torn(bodies[i]), between, framed(append(slices.Clone(bodies[k]), 0))), api.ErrTorn)
		}
		refused(t, slices.Concat(ahead, framed(wrong)), api.ErrForm)
		refused(t, slices.Concat(ahead, framed(wrong), []byte{0}), api.ErrForm)
		refused(t, slices.Concat(ahead, torn(wrong)), api.ErrTorn)
		refused(t, slices.Concat(ahead, []byte{0}), api.ErrTorn)
		refused(t, slices.Concat(ahead, make([]byte, 100)), api.ErrTorn)
		refused(t, slices.Concat(ahead, framed(make([]byte, 65537))), api.ErrTorn)
		refused(t, slices.Concat(ahead, framed(make([]byte, 65536))), api.ErrForm)
	}
}

// kinds is a file of frames of these kinds, each with the right place and what it may say.
func kinds(row []byte) []byte {
	var out [][]byte
	procs, entries := 0, 0
	for place, kind := range row {
		switch kind {
		case '1':
			out = append(out, headBody(place, 1, 7))
		case '2':
			procs++
			out = append(out, procBody(place, api.Proc{Name: fmt.Sprintf("p%d", place)}))
		case '3':
			entries++
			out = append(out, entriesBody(place, one(fmt.Sprintf("k%d", place), 1)))
		case '4':
			out = append(out, endBody(place, procs, entries))
		default:
			out = append(out, body(kind-'0', place, slowRow(1), slowRow(7)))
		}
	}
	return framed(out...)
}

// P14.4: each kind at each place: all rows of up to five of them.
func TestKindsWhereTheyStand(t *testing.T) {
	whole, begins := regexp.MustCompile("^12*3*4$"), regexp.MustCompile("^(12*3*)?$")
	var rows [][]byte
	next := [][]byte{{}}
	for range 5 {
		var longer [][]byte
		for _, row := range next {
			for _, kind := range []byte("012345") {
				longer = append(longer, append(slices.Clone(row), kind))
			}
		}
		rows = append(rows, next...)
		next = longer
	}
	taken := 0
	for _, row := range append(rows, next...) {
		want := api.ErrForm
		switch {
		case whole.Match(row):
			want = api.OK
			taken++
		case begins.Match(row):
			want = api.ErrShort
		}
		if e := agrees(t, kinds(row)); e != want {
			t.Errorf("P14.4: frames of the kinds %s: %v, not %v", row, e, want)
		}
	}
	if taken != 1+2+3+4 {
		t.Errorf("%d are taken", taken)
	}
}

// P14.4: each byte as a kind, at each place.
func TestEachKind(t *testing.T) {
	bodies, _ := sample()
	for i := range bodies {
		was := bodies[i][0]
		for c := range 256 {
			b := slices.Clone(bodies[i])
			b[0] = byte(c)
			e := agrees(t, framed(with(bodies, i, b)...))
			if e == api.OK != (byte(c) == was) || e != api.OK && e != api.ErrForm {
				t.Errorf("P14.4: kind %d at place %d: %v", c, i, e)
			}
			refused(t, framed(append(slices.Clone(bodies[:i]), []byte{byte(c)})...), api.ErrForm)
		}
	}
}

// P14.4: another place than that of the frame, and places of more than one byte.
func TestPlaces(t *testing.T) {
	bodies, want := sample()
	for i, b := range bodies {
		for _, place := range []int{0, 1, 2, 3, 4, 5, 6, 7, 8, 127, 128, 128 + i, 256 + i, api.MaxNumber, math.MaxInt} {
			if place == i {
				continue
			}
			refused(t, framed(with(bodies, i, slices.Concat(b[:1], slowRow(place), b[2:]))...), api.ErrForm)
		}
		// Not in the shortest form, too long, torn off.
		for _, place := range [][]byte{{byte(i) + 128, 0}, {byte(i) + 128, 128, 0}, unhex("ff ff ff ff ff ff ff ff 80 00"), unhex("ff ff ff ff ff ff ff ff ff 01")} {
			refused(t, framed(with(bodies, i, slices.Concat(b[:1], place, b[2:]))...), api.ErrForm)
		}
		refused(t, framed(with(bodies, i, slices.Concat(b[:1], b[2:]))...), api.ErrForm)
		refused(t, framed(with(bodies, i, b[:1])...), api.ErrForm)
		refused(t, framed(with(bodies, i, append(slices.Clone(b[:1]), 128))...), api.ErrForm)
	}
	reads(t, framed(bodies...), want, api.OK)
	// 300 procedures and 300 frames of entries: places of one byte and of two.
	var far [][]byte
	far = append(far, headBody(0, 1, 7))
	for _, p := range procsFrom(0, 300) {
		far = append(far, procBody(len(far), p))
	}
	for _, x := range keysFrom(0, 300) {
		far = append(far, entriesBody(len(far), x))
	}
	far = append(far, endBody(len(far), 300, 300))
	if e := agrees(t, framed(far...)); e != api.OK {
		t.Errorf("P14.4: 602 frames: %v", e)
	}
	for _, i := range []int{126, 127, 128, 129, 300, 301, 600, 601} {
		rest := far[i][1+len(slowRow(i)):]
		for _, place := range []int{i - 1, i + 1, i % 128, i - 128} {
			if place >= 0 && place != i {
				refused(t, framed(with(far, i, body(far[i][0], place, rest))...), api.ErrForm)
			}
		}
	}
	// A frame left out, twice there, two of them in the other order.
	for i := range bodies {
		without := slices.Delete(slices.Clone(bodies), i, i+1)
		twice := slices.Insert(slices.Clone(bodies), i, bodies[i])
		for _, l := range [][][]byte{without, twice} {
			e := agrees(t, framed(l...))
			want := api.ErrForm
			if i == len(bodies)-1 && len(l) < len(bodies) {
				want = api.ErrShort
			}
			if e != want {
				t.Errorf("P14.4: frame %d left out or doubled: %v, not %v", i, e, want)
			}
		}
		if i > 0 {
			turned := slices.Clone(bodies)
			turned[i-1], turned[i] = turned[i], turned[i-1]
			refused(t, framed(turned...), api.ErrForm)
		}
	}
}

// P14.4: the head's number and mark at their limits and outside of them.
func TestHeadNumbers(t *testing.T) {
	edges := []int{0, 1, 2, 127, 128, api.MaxNumber - 1, api.MaxNumber, api.MaxNumber + 1, 1 << 50, math.MaxInt}
	for _, number := range edges {
		for _, mark := range edges {
			b := framed(headBody(0, number, mark), endBody(1, 0, 0))
			if _, e := slowNew(number, mark); e == api.OK {
				reads(t, b, api.Image{Number: number, Mark: mark}, api.OK)
				again(t, b, api.Image{Number: number, Mark: mark})
			} else {
				refused(t, b, api.ErrForm)
			}
		}
	}
	for _, s := range []string{
		"01 00", "01 00 01", "01 00 01 80", "01 00 80", "01 00 81 00 07", "01 00 01 87 00", "01 00 01 80 00", "01 00 80 00 07",
		"01 00 ff ff ff ff ff ff ff ff ff 01 07", "01 00 01 ff ff ff ff ff ff ff ff ff 01", "01 00 01 07 00", "01 00 01 07 07", "01 00 01 07 80",
	} {
		refused(t, framed(unhex(s), endBody(1, 0, 0)), api.ErrForm)
		refused(t, framed(unhex(s)), api.ErrForm)
	}
}

// P14.4: each body cut at each place, and with something behind it, in frames that are whole.
func TestBodiesCut(t *testing.T) {
	bodies, _ := sample()
	for i, b := range bodies {
		for n := 1; n < len(b); n++ {
			refused(t, framed(with(bodies, i, b[:n])...), api.ErrForm)
			refused(t, framed(append(slices.Clone(bodies[:i]), b[:n])...), api.ErrForm)
		}
		for c := range 256 {
			refused(t, framed(with(bodies, i, append(slices.Clone(b), byte(c)))...), api.ErrForm)
		}
		refused(t, framed(with(bodies, i, slices.Concat(b, b))...), api.ErrForm)
		refused(t, framed(with(bodies, i, append(slices.Clone(b), make([]byte, 65536-len(b))...))...), api.ErrForm)
	}
}

// P14.4: something behind the end's frame: a byte, a frame, another file.
func TestBehindTheEnd(t *testing.T) {
	bodies, _ := sample()
	for _, b := range [][]byte{framed(bodies...), framed(headBody(0, 1, 0), endBody(1, 0, 0))} {
		for c := range 256 {
			refused(t, append(slices.Clone(b), byte(c)), api.ErrForm)
		}
		for _, rest := range [][]byte{make([]byte, 7), make([]byte, 8), make([]byte, 9), b, b[:5], framed([]byte{4}), framed(entriesBody(7, one("z", 1))), framed(endBody(7, 2, 5)), framed(endBody(2, 0, 0)), framed(endBody(6, 2, 5))} {
			refused(t, slices.Concat(b, rest), api.ErrForm)
		}
	}
	// What is wrong with the end's own body is the same error, and a torn one is torn whatever stands behind it.
	refused(t, slices.Concat(framed(headBody(0, 1, 0), endBody(1, 1, 0)), []byte{0}), api.ErrForm)
	torn := framed(headBody(0, 1, 0), endBody(1, 0, 0))
	torn[len(torn)-1] ^= 1
	refused(t, append(torn, 0), api.ErrTorn)
}

// P14.4: the end's numbers: what there is, one less and one more, exchanged, in another form.
func TestEndNumbers(t *testing.T) {
	for _, procs := range []int{0, 1, 2, 3, 127, 128, 200} {
		for _, entries := range []int{0, 1, 2, 3, 127, 128, 129, 300} {
			l := [][]byte{headBody(0, 1, 7)}
			for _, p := range procsFrom(0, procs) {
				l = append(l, procBody(len(l), p))
			}
			all := keysFrom(0, entries)
			for n := 0; n < entries; n += 128 {
				l = append(l, entriesBody(len(l), all[n:min(n+128, entries)]...))
			}
			place := len(l)
			if e := agrees(t, framed(append(l, endBody(place, procs, entries))...)); e != api.OK {
				t.Errorf("P14.4: %d procedures, %d entries: %v", procs, entries, e)
			}
			for _, x := range [][2]int{{procs + 1, entries}, {procs, entries + 1}, {procs - 1, entries}, {procs, entries - 1}, {entries, procs}, {0, 0}, {procs + entries, 0}, {0, procs + entries}, {procs + 128, entries}, {procs, math.MaxInt}} {
				if x == [2]int{procs, entries} || x[0] < 0 || x[1] < 0 {
					continue
				}
				refused(t, framed(append(l, endBody(place, x[0], x[1]))...), api.ErrForm)
			}
			for _, s := range []string{"", "80 00 00", "00 80 00", "80 80", "ff ff ff ff ff ff ff ff ff 01 00"} {
				refused(t, framed(append(l, body(4, place, unhex(s)))...), api.ErrForm)
			}
			refused(t, framed(append(l, body(4, place, slowRow(procs)))...), api.ErrForm)
			refused(t, framed(append(l, body(4, place, slowRow(procs), slowRow(entries), []byte{0}))...), api.ErrForm)
		}
	}
}

// P14.4: what stands in a procedure's frame.
func TestReadProcs(t *testing.T) {
	file := func(procs int, bodies ...[]byte) []byte {
		l := [][]byte{headBody(0, 1, 7)}
		for _, b := range bodies {
			l = append(l, body(2, len(l), b))
		}
		return framed(append(l, endBody(len(l), procs, 0))...)
	}
	for _, p := range someProcs() {
		b := framed(headBody(0, 1, 7), procBody(1, p), endBody(2, 1, 0))
		reads(t, b, api.Image{Number: 1, Mark: 7, Procs: []api.Proc{p}}, api.OK)
		again(t, b, api.Image{Number: 1, Mark: 7, Procs: []api.Proc{p}})
	}
	for s, want := range map[string]api.Errno{
		"04 01 70 00 00":                api.OK,
		"05 01 70 00 01 10":             api.OK,
		"":                              api.ErrForm,
		"00":                            api.ErrForm,
		"04 01 70 00":                   api.ErrForm, // the text is not all there
		"03 01 70 00 00":                api.ErrForm, // too short a text, and a byte behind it
		"05 01 70 00 00 00":             api.ErrForm, // something behind the procedure, in its text
		"04 01 70 00 00 00":             api.ErrForm, // something behind its text
		"84 00 01 70 00 00":             api.ErrForm, // the length is not in its shortest form
		"03 00 00 00":                   api.ErrForm, // no name
		"04 01 31 00 00":                api.ErrForm, // a name that is none
		"04 01 70 11 00":                api.ErrForm, // 17 arguments
		"05 01 70 00 01 11":             api.ErrForm, // an operation that is none
		"06 01 70 00 01 0f 10":          api.ErrForm, // a register that is none
		"06 01 70 00 01 0f 0f":          api.OK,
		"09 01 70 00 01 01 00 02 00 00": api.ErrForm, // a value with something behind it
		"08 01 70 00 01 01 00 01 00":    api.OK,
		"ff ff ff ff ff ff ff ff 7f":    api.ErrForm,
		"ff ff ff ff ff ff ff ff 80 01": api.ErrForm,
		"04 81 70 00 00":                api.ErrForm,
		"05 01 70 00 41 10":             api.ErrForm, // 65 instructions
	} {
		if e := agrees(t, file(1, unhex(s))); e != want {
			t.Errorf("P14.4: a procedure of %s: %v, not %v", s, e, want)
		}
	}
	for _, x := range orders {
		procs := named(x.a, x.b)
		b := framed(headBody(0, 1, 7), procBody(1, procs[0]), procBody(2, procs[1]), endBody(3, 2, 0))
		if e := agrees(t, b); e == api.OK != x.above || e != api.OK && e != api.ErrForm {
			t.Errorf("P14.4: the names %s and %s: %v", x.a, x.b, e)
		}
	}
}

// P14.4: what stands in a frame of entries.
func TestReadEntries(t *testing.T) {
	file := func(entries int, rest ...[]byte) []byte {
		l := [][]byte{headBody(0, 1, 7)}
		for _, b := range rest {
			l = append(l, body(3, len(l), b))
		}
		return framed(append(l, endBody(len(l), 0, entries))...)
	}
	for _, x := range someEntries() {
		b := framed(headBody(0, 1, 7), entriesBody(1, x), endBody(2, 0, 1))
		reads(t, b, api.Image{Number: 1, Mark: 7, Entries: []api.Entry{x}}, api.OK)
		again(t, b, api.Image{Number: 1, Mark: 7, Entries: []api.Entry{x}})
	}
	for s, want := range map[string]api.Errno{
		"01 01 61 02 01 02":       api.OK,
		"01 01 61 02 02 00":       api.OK,
		"":                        api.ErrForm,
		"01":                      api.ErrForm,
		"01 01 61":                api.ErrForm,
		"01 01 61 02 01":          api.ErrForm,
		"01 01 61 02 01 02 00":    api.ErrForm, // something behind it
		"81 00 01 61 02 01 02":    api.ErrForm, // how many, not in its shortest form
		"01 81 00 61 02 01 02":    api.ErrForm, // so the key
		"01 01 61 82 00 01 02":    api.ErrForm, // so the value
		"01 00 02 01 02":          api.ErrForm, // an empty key
		"01 02 61 02 01 02":       api.ErrForm,
		"01 01 61 01 00":          api.ErrForm, // a value that is nothing
		"01 01 61 00":             api.ErrForm, // a value of no bytes
		"01 01 61 01 03":          api.ErrForm, // a kind that is none
		"01 01 61 02 01 80":       api.ErrForm,
		"01 01 61 03 01 80 00":    api.ErrForm,
		"01 01 61 03 01 80 01":    api.OK,
		"01 01 61 03 01 02 00":    api.ErrForm, // something behind the integer, in its text
		"01 01 61 03 02 02 62":    api.ErrForm,
		"01 01 61 04 02 01 62 63": api.ErrForm,
		"01 01 61 04 02 81 02 62": api.ErrForm, // a text of 257 bytes, which are not there
		"01 01 61 0b 01 ff ff ff ff ff ff ff ff ff 01": api.OK,
		"01 01 61 0b 01 ff ff ff ff ff ff ff ff ff 02": api.ErrForm,
		"01 01 61 ff ff ff ff ff ff ff ff 7f 01 02":    api.ErrForm,
		"01 ff ff ff ff ff ff ff ff 7f 61 02 01 02":    api.ErrForm,
		"ff ff ff ff ff ff ff ff 7f 01 61 02 01 02":    api.ErrForm,
		"ff ff ff ff ff ff ff ff ff 01 01 61 02 01 02": api.ErrForm,
		"02 01 61 02 01 02":                            api.ErrForm, // one of two
		"01 01 61 02 01 02 01 62 02 01 02":             api.ErrForm, // two of one
		"00":                                           api.ErrForm, // a frame of none
		"00 01 61 02 01 02":                            api.ErrForm,
	} {
		if e := agrees(t, file(1, unhex(s))); e != want {
			t.Errorf("P14.4: entries of %s: %v, not %v", s, e, want)
		}
		refused(t, file(0, unhex(s)), api.ErrForm)
	}
	refused(t, file(0, []byte{0}), api.ErrForm)
	// Keys and texts at their limits, and one byte more.
	for n, want := range map[int]api.Errno{1: api.OK, 63: api.OK, 64: api.OK, 65: api.ErrForm, 66: api.ErrForm, 128: api.ErrForm} {
		b := slices.Concat([]byte{1}, slowText(long(n)), unhex("02 01 02"))
		if e := agrees(t, file(1, b)); e != want {
			t.Errorf("P14.4: a key of %d bytes: %v", n, e)
		}
	}
	for n, want := range map[int]api.Errno{0: api.OK, 255: api.OK, 256: api.OK, 257: api.ErrForm, 300: api.ErrForm} {
		v := slices.Concat([]byte{2}, slowText(long(n)))
		b := slices.Concat(unhex("01 01 61"), slowText(string(v)))
		if e := agrees(t, file(1, b)); e != want {
			t.Errorf("P14.4: a text of %d bytes: %v", n, e)
		}
	}
}

// P14.4: how many entries a frame has; several frames one behind the other.
func TestEntryFrames(t *testing.T) {
	for _, n := range []int{1, 2, 3, 126, 127, 128, 129, 130, 200, 256} {
		b := framed(headBody(0, 1, 7), entriesBody(1, keysFrom(0, n)...), endBody(2, 0, n))
		want := api.OK
		if n > 128 {
			want = api.ErrForm
		}
		if e := agrees(t, b); e != want {
			t.Errorf("P14.4: a frame of %d entries: %v", n, e)
		}
		// Two such frames; two that have a key in common; one of none behind it.
		b = framed(headBody(0, 1, 7), entriesBody(1, keysFrom(0, n)...), entriesBody(2, keysFrom(n, n)...), endBody(3, 0, 2*n))
		if e := agrees(t, b); e != want {
			t.Errorf("P14.4: two frames of %d entries: %v", n, e)
		}
		refused(t, framed(headBody(0, 1, 7), entriesBody(1, keysFrom(0, n)...), entriesBody(2, keysFrom(n-1, n)...), endBody(3, 0, 2*n)), api.ErrForm)
		refused(t, framed(headBody(0, 1, 7), entriesBody(1, keysFrom(0, n)...), body(3, 2, []byte{0}), endBody(3, 0, n)), api.ErrForm)
		// How many it says, and how many there are.
		for _, says := range []int{0, n - 1, n + 1, n + 128} {
			var rows []byte
			for _, x := range keysFrom(0, n) {
				rows = append(rows, entryBytes(x)...)
			}
			refused(t, framed(headBody(0, 1, 7), body(3, 1, slowRow(says), rows), endBody(2, 0, n)), api.ErrForm)
			refused(t, framed(headBody(0, 1, 7), body(3, 1, slowRow(says), rows), endBody(2, 0, says)), api.ErrForm)
		}
	}
	for _, x := range orders {
		for _, l := range [][][]byte{
			{headBody(0, 1, 7), entriesBody(1, ones(x.a, x.b)...), endBody(2, 0, 2)},
			{headBody(0, 1, 7), entriesBody(1, ones(x.a)...), entriesBody(2, ones(x.b)...), endBody(3, 0, 2)},
			{headBody(0, 1, 7), procBody(1, put2()), entriesBody(2, ones(x.a)...), entriesBody(3, ones(x.b)...), endBody(4, 1, 2)},
		} {
			if e := agrees(t, framed(l...)); e == api.OK != x.above || e != api.OK && e != api.ErrForm {
				t.Errorf("P14.4: the keys %s and %s: %v", x.a, x.b, e)
			}
		}
	}
	// A key is not held against names, nor a name against keys.
	if e := agrees(t, framed(headBody(0, 1, 7), procBody(1, api.Proc{Name: "z"}), entriesBody(2, ones("a")...), endBody(3, 1, 1))); e != api.OK {
		t.Errorf("P14.4: a key below a name: %v", e)
	}
}

// P14.4, W1: any bytes: short rows, random ones, in frames and without.
func TestAnyBytes(t *testing.T) {
	head := framed(headBody(0, 1, 7))
	for i := range 256 {
		refused(t, []byte{byte(i)}, api.ErrTorn)
		for k := range 256 {
			agrees(t, framed([]byte{byte(i), byte(k)}))
			agrees(t, slices.Concat(head, framed([]byte{byte(i), byte(k)})))
			agrees(t, slices.Concat(head, framed([]byte{4, 1, byte(i), byte(k)})))
			agrees(t, framed([]byte{1, 0, byte(i), byte(k)}, endBody(1, 0, 0)))
		}
	}
	r := chanceOf(144)
	for range 20000 {
		b := make([]byte, r.Intn(40))
		r.Read(b)
		agrees(t, b)
		agrees(t, slices.Concat(head, b))
		if len(b) > 0 {
			b[0] = byte(r.Intn(6))
			agrees(t, framed(b))
			agrees(t, slices.Concat(head, framed(b)))
		}
	}
}

// P14.4, P14.6: random files, as they are, and with a few bytes of their bodies changed, left out and put in.
func TestReadAgainstWords(t *testing.T) {
	r := chanceOf(14)
	seen := map[api.Errno]int{}
	for range 2000 {
		bodies := r.bodies()
		if e := agrees(t, framed(bodies...)); e != api.OK {
			t.Fatalf("P14.4: a file: %v", e)
		}
		for range 6 {
			i := r.Intn(len(bodies))
			b := slices.Clone(bodies[i])
			at := r.Intn(len(b))
			switch r.Intn(5) {
			case 0:
				b[at] ^= 1 << r.Intn(8)
			case 1:
				b[at] = byte(r.Intn(6))
			case 2:
				b = slices.Delete(b, at, at+1)
			case 3:
				b = slices.Insert(b, at, byte(r.Intn(256)))
			case 4:
				b[at] += byte(r.Intn(3)) - 1
			}
			if len(b) > 0 {
				seen[agrees(t, framed(with(bodies, i, b)...))]++
			}
		}
		b := framed(bodies...)
		seen[agrees(t, b[:r.Intn(len(b))])]++
	}
	for _, e := range []api.Errno{api.OK, api.ErrForm, api.ErrTorn, api.ErrShort} {
		if seen[e] < 50 {
			t.Errorf("%v was met %d times", e, seen[e])
		}
	}
}
