package audit_test

import (
	"fmt"
	"math/rand"
	"slices"
	"strings"
	"testing"

	"treadle/api"
	"treadle/audit"
)

// nearly is names that look like the store's own and are none.
func nearly() []string {
	out := []string{
		"log", "log-", "-000000000001", "000000000001", "log000000000001", "log_000000000001", "LOG-000000000001", "Log-000000000001", "xlog-000000000001", "log-log-000000000001",
		"ckpt", "ckpt-", "ckpt000000000004", "ckpt_000000000004", "CKPT-000000000004", "ckp-000000000004", "xckpt-000000000004",
		"manifes", "manifest.", "manifest.ne", "manifest.new.", "manifest.new~", "Manifest", "MANIFEST", "manifest1", "manifest ", " manifest", "manifest\x00", "manifest\n", "manifest_new", "manifest.NEW", "manifest.old", "manifest-000000000001", "new", ".new",
	}
	for _, beginning := range []string{"log-", "ckpt-"} {
		for _, rest := range []string{
			"1", "01", "00000000001", "0000000000001", "00000000000000000001", "000000000000", "00000000000A", "FFFFFFFFFFFF", "00000000000g", "0x0000000001", "+00000000001", "-00000000001", " 00000000001", "00000000001 ",
			"000000000001.", "000000000001~", "000000000001.new", "000000000001\x00", "000000000001\n", "000000000001 ", "00000000000\x00", "00000000000\xb1", "00000000000é", "000000_00001", "ffffffffffff0", "1000000000000",
		} {
			out = append(out, beginning+rest)
		}
	}
	return out
}

// odd is names that no disk takes, and others that mean nothing.
func odd() []string {
	return []string{"", " ", "\x00", "\xff", "\xff\xfe\xfd", "a b", "é", "\n", "x", "!", "~", "/", "..", "日本", "log-\x00\x00", strings.Repeat("n", 41), strings.Repeat("n", 100000), strings.Repeat("\x00", 300)}
}

// P20.1: names that look like the store's own, and names of any bytes, are Others; with any bytes they change nothing else.
func TestOthers(t *testing.T) {
	names := slices.Sorted(slices.Values(append(nearly(), odd()...)))
	scenes := []dir{{}, {seg(1, 1, 1)}, two(), two().without(ckptName(9)), marked(3), {file("manifest", nil)}, {seg(2, 1)}, two().more(logName(7), 1)}
	for _, x := range scenes {
		alone := agrees(t, "alone", x)
		for _, data := range [][]byte{nil, {1, 2, 3}, rows(1, 1, 1), image(4, 3), man(of(1, 4, 3, 0, 0)).Data} {
			with := slices.Clone(x)
			for i, name := range names {
				one := alone
				one.Others = []string{name}
				x.with(file(name, data)).told(t, one)
				with = slices.Insert(with, i%(len(with)+1), file(name, data))
			}
			all := alone
			all.Others = names
			with.told(t, all)
		}
	}
}

// P20.1: each single byte as a name.
func TestEachByte(t *testing.T) {
	var x dir
	var want []string
	for i := range 256 {
		x = append(x, file(string([]byte{byte(255 - i)}), []byte{byte(i)}))
		want = append(want, string([]byte{byte(i)}))
	}
	x.told(t, api.Report{Others: want})
}

// P20.1: the store's own names that are not needed are Left: what waits for its name, checkpoints that are not named, segments ahead of the needed ones.
func TestLeft(t *testing.T) {
	own := []string{"manifest.new", ckptName(1), ckptName(9), ckptName(10), ckptName(0xa0), ckptName(most), ckptName(0x123456789abc)}
	for _, name := range own {
		for _, data := range [][]byte{nil, {1}, rows(1, 1), man(of(9, 9, 9, 0, 0)).Data, image(9, 9)} {
			dir{file(name, data)}.told(t, api.Report{Left: []string{name}})
			dir{file(name, data), seg(1, 1)}.found(t, api.Opened{Last: 1, Replayed: 1}, []api.Segment{size(1, 1)}, logName(1))
			dir{file(name, data), seg(2, 1)}.damaged(t)
		}
	}
	x := two().with(file("manifest.new", nil), ck(6, 3), ck(10, 6), ck(most, 6), file("x", nil), file("Log", nil))
	x.told(t, api.Report{
		Opened: api.Opened{Base: 6, Last: 8, Replayed: 2}, Has: true, Manifest: of(7, 9, 6, 5, 3), Segments: append(unread(1, 3, 5), size(7, 1), size(8, 1)),
		Needed: []string{"manifest", ckptName(9), logName(7), logName(8)},
		Left:   []string{ckptName(5), ckptName(6), ckptName(10), ckptName(most), logName(1), logName(3), logName(5), "manifest.new"},
		Others: []string{"Log", "x"},
	})
}

// P20.1: Needed in the order of the readings, which is not that of the names; Left and Others in that of their bytes.
func TestOrders(t *testing.T) {
	x := dir{man(of(2, 0x10, 300, 0xf, 8)), file(ckptName(0x10), nil), ck(0xf, 8), seg(9, 1), seg(0xa, 0x30, 0x26), seg(0x60, 0x3f, 0x21), seg(0xc0, 0x3f, 1), seg(0x100, 1)}
	needed := []string{"manifest", ckptName(0x10), ckptName(0xf), logName(9), logName(0xa), logName(0x60), logName(0xc0), logName(0x100)}
	sizes := []api.Segment{size(9, 1), size(0xa, 0x30, 0x26), size(0x60, 0x3f, 0x21), size(0xc0, 0x3f, 1), size(0x100, 1)}
	x.found(t, api.Opened{Base: 8, Last: 0x100, Replayed: 0xf8}, sizes, needed...)
	others := []string{"", "\x00", "A", "B", "a", "a\x00", "a ", "aa", "b", "ba", "log", "log-", "log-00000000000G", "log-00000000000g", "manifest\x01", "z", "zz", "é", "\xff", "\xff\x00", "\xff\xff"}
	left := []string{ckptName(1), ckptName(0xa), ckptName(0x11), ckptName(0xa0), ckptName(most), logName(1), logName(2), "manifest.new"}
	for _, name := range slices.Concat(others, left) {
		x = append(x, file(name, []byte(name)))
	}
	for seed := range int64(20) {
		x.shuffled(rand.New(rand.NewSource(seed))).told(t, api.Report{
			Opened: api.Opened{Base: 8, Last: 0x100, Replayed: 0xf8}, Has: true, Manifest: of(2, 0x10, 300, 0xf, 8),
			Segments: append(unread(1, 2), sizes...), Needed: needed, Left: left, Others: others,
		})
	}
}

// P20.2: the order of the files makes no difference, nor do other bytes in what is not needed.
func TestOrderAndOtherBytes(t *testing.T) {
	scenes := []dir{{}, two(), two().without(ckptName(9)), two().cut(ckptName(9), 3).more(logName(8), 1, 2), two().without("manifest"), two().without(logName(3)), two().without(ckptName(9), logName(3)), marked(4).with(seg(1, 3), seg(4, 1), seg(7, 1)), {file("manifest", nil), seg(1, 1)}}
	for _, h := range harms() {
		scenes = append(scenes, h.do(two()))
	}
	for k, x := range scenes {
		x = x.with(file("x", nil), file("", nil), file("manifest.new", nil), ck(1, 1), file("log-1", nil))
		want := agrees(t, fmt.Sprint("scene ", k), x)
		for seed := range int64(10) {
			r := rand.New(rand.NewSource(seed))
			if got := audit.Look(x.shuffled(r)); !same(got, want) {
				t.Errorf("P20.2: scene %d, in another order: %+v, not %+v", k, got, want)
			}
			for _, data := range [][]byte{nil, {0}, rows(1, 1, 1), rows(3, 5), image(9, 6), man(of(1, 1, 1, 0, 0)).Data, make([]byte, r.Intn(90))} {
				y := slices.Clone(x)
				for i, f := range y {
					if !slices.Contains(want.Needed, f.Name) && r.Intn(3) > 0 {
						y[i].Data = data
					}
				}
				if got := agrees(t, "P20.2", y); !same(got, want) {
					t.Errorf("P20.2: scene %d, with other bytes: %+v, not %+v", k, got, want)
				}
			}
		}
	}
}

// cutOff is a directory whose last segment is cut off by so many bytes.
func (x dir) cutOff(segments []api.Segment, torn int) dir {
	if torn == 0 {
		return x
	}
	return x.cut(logName(segments[len(segments)-1].First), torn)
}

// P20.3: cut off by the torn bytes, the Report is the same, but that nothing is torn; and an opening has cut off just these.
func TestCutOff(t *testing.T) {
	scenes := []dir{two(), two().without(ckptName(9)), {seg(1, 1, 1)}, {seg(1)}, {seg(1, 1), seg(2)}, marked(2).with(seg(3)), marked(2).with(seg(1, 1, 1)), marked(2).with(seg(2, 1, 2))}
	for _, x := range scenes {
		first := audit.Look(x)
		last := logName(first.Segments[len(first.Segments)-1].First)
		next := first.Opened.Last + 1
		for _, tail := range tails(next) {
			y := x.more(last, tail...)
			got := agrees(t, "P20.3", y)
			if got.Err != api.OK || got.Opened.Torn != len(tail) {
				t.Errorf("P20.1: %+v, and %d bytes are torn", got, len(tail))
			}
			want := got
			want.Opened.Torn = 0
			y.cutOff(got.Segments, got.Opened.Torn).told(t, want)
			x.told(t, want)
		}
	}
}
