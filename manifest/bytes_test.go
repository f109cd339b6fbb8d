package manifest_test

import (
	"bytes"
	"math"
	"math/rand"
	"slices"
	"testing"

	"treadle/api"
	"treadle/manifest"
)

// The names and the bytes of the chapter's examples.
func TestExamples(t *testing.T) {
	if manifest.Name != "manifest" || manifest.New != "manifest.new" {
		t.Errorf("the names are %q and %q", manifest.Name, manifest.New)
	}
	m := example()
	b := encoded(t, m)
	if len(b) < 8 || !bytes.Equal(b[8:], unhex("08 6d 61 6e 69 66 65 73 74 02 05 ac 02 03 80 01")) || !bytes.Equal(b, framed(b[8:])) {
		t.Errorf("P15.2: %x", b)
	}
	if got, e := manifest.Decode(b); got != m || e != api.OK {
		t.Errorf("P15.3: %v, %v", got, e)
	}
	refused(t, b[:len(b)-1], api.ErrTorn)
	refused(t, append(bytes.Clone(b), 0), api.ErrForm)
	refused(t, nil, api.ErrEnd)
	for _, change := range []func(m *api.Manifest){
		func(m *api.Manifest) { m.Prev = 5 },
		func(m *api.Manifest) { m.Prev = 0 },
		func(m *api.Manifest) { m.PrevMark = 300 },
		func(m *api.Manifest) { m.Mark = -1 },
	} {
		bad := m
		change(&bad)
		if b, e := manifest.Encode(bad); e != api.ErrArg || len(b) > 0 {
			t.Errorf("P15.2: Encode(%v): %x, %v", bad, b, e)
		}
	}
}

// P15.1, P15.2, P15.5: manifests at their limits: the bytes, and back again.
func TestMayBe(t *testing.T) {
	for _, m := range takenList() {
		b := encoded(t, m)
		if !bytes.Equal(b, slowEncode(m)) {
			t.Errorf("P15.2: Encode(%v): %x, not %x", m, b, slowEncode(m))
		}
		if got, e := manifest.Decode(b); got != m || e != api.OK {
			t.Errorf("P15.5: %v, %v, not %v", got, e, m)
		}
	}
	// The least and the greatest there are, written out.
	for _, x := range []struct {
		m    api.Manifest
		body string
	}{
		{takenList()[0], "08 6d 61 6e 69 66 65 73 74 01 01 00 00 00"},
		{takenList()[10], "08 6d 61 6e 69 66 65 73 74 ff ff ff ff ff ff 3f ff ff ff ff ff ff 3f ff ff ff ff ff ff 3f fe ff ff ff ff ff 3f fe ff ff ff ff ff 3f"},
	} {
		if b := encoded(t, x.m); !bytes.Equal(b, framed(unhex(x.body))) {
			t.Errorf("P15.2: Encode(%v): %x", x.m, b)
		}
	}
}

// P15.1, P15.2: manifests just outside of their limits: no bytes.
func TestMayNotBe(t *testing.T) {
	for _, m := range refusedList() {
		if b, e := manifest.Encode(m); e != api.ErrArg || len(b) > 0 {
			t.Errorf("P15.2: Encode(%v): %x, %v", m, b, e)
		}
	}
}

// P15.1, P15.2, P15.3, P15.5: all five numbers at all their edges, each with each.
func TestAllEdges(t *testing.T) {
	taken := 0
	var five [5]int
	var each func(at int)
	each = func(at int) {
		if at < len(five) {
			for _, five[at] = range edges() {
				each(at + 1)
			}
			return
		}
		m := of(five)
		b, e := manifest.Encode(m)
		want, err := slowEncode(m), api.OK
		if !slowMayBe(m) {
			want, err = nil, api.ErrArg
		} else {
			taken++
		}
		if e != err || !bytes.Equal(b, want) {
			t.Fatalf("P15.2: Encode(%v): %x, %v, not %x, %v", m, b, e, want, err)
		}
		// The same numbers as bytes: none below 0 has a row, and one that is laid all the same is too great.
		agrees(t, slowEncode(m))
		if slices.Min(five[:]) >= 0 && err != api.OK {
			refused(t, slowEncode(m), api.ErrForm)
		}
	}
	each(0)
	if taken < 300 {
		t.Errorf("%d may be", taken)
	}
}

// P15.3: nothing, and bytes that end at each place of a manifest's.
func TestCutOff(t *testing.T) {
	refused(t, nil, api.ErrEnd)
	refused(t, []byte{}, api.ErrEnd)
	for _, m := range takenList() {
		b := slowEncode(m)
		for i := 1; i < len(b); i++ {
			refused(t, b[:i], api.ErrTorn)
		}
	}
	// A frame without a body, and with one that is too long, is none.
	refused(t, framed(nil), api.ErrTorn)
	refused(t, append(framed(nil), bodyOf(example())...), api.ErrTorn)
	long := append(bodyOf(example()), make([]byte, 65536)...)
	refused(t, framed(long[:65536]), api.ErrForm)
	refused(t, framed(long[:65537]), api.ErrTorn)
	refused(t, make([]byte, 100), api.ErrTorn)
	refused(t, bodyOf(example()), api.ErrTorn)
	refused(t, append([]byte{0}, slowEncode(example())...), api.ErrTorn)
}

// P15.3: each byte of the frame changed to each other one.
func TestChangedByte(t *testing.T) {
	b := slowEncode(example())
	for i := range b {
		for v := range 255 {
			c := bytes.Clone(b)
			c[i] += byte(v + 1)
			refused(t, c, api.ErrTorn)
		}
	}
}

// P15.3: bytes behind the frame: ErrForm, whatever the body is; but what is not whole is torn, whatever stands behind it.
func TestBehindFrame(t *testing.T) {
	whole := slowEncode(example())
	bodies := [][]byte{bodyOf(example()), bodyOf(api.Manifest{}), {1}, {9}, {0x80}, unhex("80 00"), unhex("ff ff ff ff ff ff ff ff ff"), textRow("manifest"), textRow("MANIFEST")}
	for _, more := range [][]byte{{0}, {1}, {8}, {0, 0, 0, 0, 0, 0, 0, 0}, whole, whole[:len(whole)-1], make([]byte, 1000)} {
		for _, body := range bodies {
			refused(t, append(framed(body), more...), api.ErrForm)
		}
		torn := bytes.Clone(whole)
		torn[len(torn)-1]++
		refused(t, append(torn, more...), api.ErrTorn)
		refused(t, append(framed(nil), more...), api.ErrTorn)
	}
}

// P15.3: the text: one that cannot be taken, and another one; both ahead of what is wrong with the numbers.
func TestText(t *testing.T) {
	five := slices.Concat(rowsOf(example())[1:]...)
	bad := [][]byte{five, nil, five[:3], {0}, {0x80}, unhex("80 00"), unhex("ff ff ff ff ff ff ff ff ff"), append(bytes.Clone(five), 0), make([]byte, 5)}
	for _, s := range []string{"", "m", "manifes", "anifest", "Manifest", "manifesT", "manifesu", "manifess", "nanifest", "\x00anifest", "manifes\x00", "ckptckpt", "MANIFEST"} {
		for _, rest := range bad {
			refused(t, framed(append(textRow(s), rest...)), api.ErrForm)
		}
	}
	for _, s := range []string{"manifests", "manifest\x00", "manifest.new", " manifest", string(make([]byte, 300))} {
		for _, rest := range bad {
			refused(t, framed(append(textRow(s), rest...)), api.ErrLong)
		}
		refused(t, framed(textRow(s)[:3]), api.ErrLong) // its length comes ahead of its end
	}
	text := []byte("manifest")
	for _, x := range []struct {
		length string
		want   api.Errno
	}{
		{"88 00", api.ErrForm}, {"80 00", api.ErrForm}, {"88 80 00", api.ErrForm}, {"ff ff ff ff ff ff ff ff 00", api.ErrForm},
		{"88 01", api.ErrLong}, {"09", api.ErrLong}, {"ff ff ff ff ff ff ff ff 7f", api.ErrLong},
		{"ff ff ff ff ff ff ff ff ff", api.ErrRange}, {"88 80 80 80 80 80 80 80 80 00", api.ErrRange},
	} {
		for _, rest := range bad {
			refused(t, framed(slices.Concat(unhex(x.length), text, rest)), x.want)
		}
	}
	for _, s := range []string{"80", "ff", "88 80", "ff ff ff ff ff ff ff ff", "08", "01", "08 6d 61 6e 69 66 65 73", "08 4d 41 4e 49 46 45 53", "07 6d 61 6e 69 66 65"} {
		refused(t, framed(unhex(s)), api.ErrShort)
	}
}

// P15.3: a body that ends at each place.
func TestBodyEnds(t *testing.T) {
	for _, m := range slices.Concat(takenList(), []api.Manifest{{}, of([5]int{0, 300, 300, 300, 300})}) {
		body := bodyOf(m)
		for i := 1; i < len(body); i++ {
			refused(t, framed(body[:i]), api.ErrShort)
		}
	}
}

// P15.3: each number in each form that cannot be taken: chapter 1's error of the first of them, ahead of all that the numbers say.
func TestNumberForms(t *testing.T) {
	forms := []struct {
		row  string
		want api.Errno
	}{
		{"80 00", api.ErrForm}, {"82 00", api.ErrForm}, {"ff 80 00", api.ErrForm}, {"80 80 80 80 80 80 80 80 00", api.ErrForm},
		{"ff ff ff ff ff ff ff ff ff", api.ErrRange}, {"80 80 80 80 80 80 80 80 80 01", api.ErrRange}, {"ff ff ff ff ff ff ff ff ff 00", api.ErrRange},
	}
	for _, m := range []api.Manifest{example(), of([5]int{0, 0, 0, 7, 7}), of([5]int{most + 1, 1, 1, 1, 1})} {
		for i := range 5 {
			for _, x := range forms {
				rows := rowsOf(m)
				rows[1+i] = unhex(x.row)
				refused(t, framed(slices.Concat(rows...)), x.want)
				refused(t, framed(append(slices.Concat(rows...), 0)), x.want)
				// Nothing behind it is asked any more: not that it is missing, nor its form.
				refused(t, framed(slices.Concat(rows[:2+i]...)), x.want)
				for k := i + 1; k < 5; k++ {
					for _, y := range forms {
						rows := slices.Clone(rows)
						rows[1+k] = unhex(y.row)
						refused(t, framed(slices.Concat(rows...)), x.want)
					}
				}
			}
			for _, row := range []string{"80", "ff", "80 80", "80 80 80 80 80 80 80 80"} {
				rows := rowsOf(m)
				refused(t, framed(append(slices.Concat(rows[:1+i]...), unhex(row)...)), api.ErrShort)
			}
		}
	}
}

// P15.3: something behind the last number.
func TestBehindNumbers(t *testing.T) {
	for _, m := range slices.Concat(takenList(), []api.Manifest{{}}) {
		for _, more := range [][]byte{{0}, {1}, {0x80}, unhex("80 00"), unhex("ff ff ff ff ff ff ff ff ff ff"), bodyOf(m), slowEncode(m), make([]byte, 5000)} {
			refused(t, framed(append(bodyOf(m), more...)), api.ErrForm)
		}
	}
}

// P15.3: numbers that may not be, and that can be taken.
func TestDecodeMayNotBe(t *testing.T) {
	asked := 0
	for _, m := range refusedList() {
		if m.Number < 0 || m.File < 0 || m.Mark < 0 || m.Prev < 0 || m.PrevMark < 0 {
			refused(t, slowEncode(m), api.ErrRange) // a row of 64 digits is no number
			continue
		}
		asked++
		refused(t, slowEncode(m), api.ErrForm)
	}
	if asked < 20 {
		t.Errorf("%d were asked", asked)
	}
	refused(t, slowEncode(of([5]int{math.MaxInt, math.MaxInt, math.MaxInt, math.MaxInt, math.MaxInt})), api.ErrForm)
}

// someManifest is a manifest that may be, often at an edge.
func someManifest(r *rand.Rand) api.Manifest {
	for {
		var five [5]int
		for i := range five {
			switch r.Intn(4) {
			case 0:
				five[i] = edges()[r.Intn(len(edges()))]
			case 1:
				five[i] = r.Intn(most)
			default:
				five[i] = r.Intn(300)
			}
		}
		if r.Intn(4) == 0 {
			five[3], five[4] = 0, 0
		}
		if slowMayBe(of(five)) {
			return of(five)
		}
	}
}

// P15.5: there and back, for many.
func TestThereAndBack(t *testing.T) {
	r := rand.New(rand.NewSource(15))
	for range 20000 {
		m := someManifest(r)
		b := encoded(t, m)
		if got, e := manifest.Decode(b); got != m || e != api.OK || !bytes.Equal(b, slowEncode(m)) {
			t.Errorf("P15.5: %v, %v, not %v", got, e, m)
		}
	}
}

// changed is a row of bytes with a few changes.
func changed(r *rand.Rand, b []byte) []byte {
	b = bytes.Clone(b)
	for range r.Intn(3) {
		at := r.Intn(len(b) + 1)
		switch some := []byte{0, 1, 8, 0x7f, 0x80, 0xff, byte(r.Intn(256))}; r.Intn(3) {
		case 0:
			b = slices.Insert(b, at, some[r.Intn(len(some))])
		case 1:
			b = slices.Delete(b, min(at, len(b)), min(at+1+r.Intn(2), len(b)))
		default:
			if at < len(b) {
				b[at] = some[r.Intn(len(some))]
			}
		}
	}
	return b
}

// P15.3, P15.5: bodies and frames with a few changes, against the chapter's words; what is taken, encoded again.
func TestChanged(t *testing.T) {
	r := rand.New(rand.NewSource(3))
	seen := map[api.Errno]int{}
	for range 100000 {
		m := someManifest(r)
		b := framed(changed(r, bodyOf(m)))
		if r.Intn(8) == 0 {
			b = changed(r, b)
		}
		e := agrees(t, b)
		seen[e]++
		if e != api.OK {
			continue
		}
		m, _ = manifest.Decode(b)
		if again := encoded(t, m); !bytes.Equal(again, b) {
			t.Errorf("P15.5: %x is taken, and is %x again", b, again)
		}
	}
	for _, e := range []api.Errno{api.OK, api.ErrTorn, api.ErrForm, api.ErrShort, api.ErrLong, api.ErrRange} {
		if seen[e] < 50 {
			t.Errorf("%v was met %d times", e, seen[e])
		}
	}
}

// P15.3, P15.5: all short bodies of bytes that count in some way, behind the text.
func TestShortBodies(t *testing.T) {
	some := []byte{0, 1, 2, 3, 0x80}
	taken := 0
	var try func(body []byte, left int)
	try = func(body []byte, left int) {
		b := framed(body)
		if agrees(t, b) == api.OK {
			taken++
			m, _ := manifest.Decode(b)
			if !bytes.Equal(encoded(t, m), b) {
				t.Errorf("P15.5: %x is not what Encode says of it", b)
			}
		}
		if left == 0 {
			return
		}
		for _, v := range some {
			try(append(bytes.Clone(body), v), left-1)
		}
	}
	try(textRow("manifest"), 6)
	if taken < 50 {
		t.Errorf("%d were taken", taken)
	}
}
