package manifest_test

import (
	"encoding/binary"
	"hash/crc32"
	"slices"

	"treadle/api"
	"treadle/disk"
)

// What the chapter says, done slowly. Frames and rows of sevens are those of the chapters 4 and 1, written here anew;
// the disk is chapter 3's, as the chapter does.

// slowMayBe is P15.1.
func slowMayBe(m api.Manifest) bool {
	within := func(v, least, most int) bool { return v >= least && v <= most }
	if !within(m.Number, 1, most) || !within(m.File, 1, most) || !within(m.Mark, 0, most) {
		return false
	}
	if !within(m.Prev, 0, m.File-1) {
		return false
	}
	if m.Prev == 0 {
		return m.PrevMark == 0
	}
	return within(m.PrevMark, 0, m.Mark-1)
}

var castagnoli = crc32.MakeTable(crc32.Castagnoli)

// framed is the frame of a body, also of one that is too short or too long for a frame.
func framed(body []byte) []byte {
	head := binary.LittleEndian.AppendUint32(nil, uint32(len(body)))
	head = binary.LittleEndian.AppendUint32(head, crc32.Checksum(slices.Concat(head, body), castagnoli))
	return append(head, body...)
}

// textRow is a text as chapter 1 has it.
func textRow(s string) []byte { return append(binary.AppendUvarint(nil, uint64(len(s))), s...) }

// numberRow is a number as chapter 1 has it; of one below 0 what the 64 digits say, which is too great.
func numberRow(n int) []byte { return binary.AppendUvarint(nil, uint64(n)) }

// rowsOf is the rows of a manifest's body: the text, and the five numbers.
func rowsOf(m api.Manifest) [][]byte {
	return [][]byte{textRow("manifest"), numberRow(m.Number), numberRow(m.File), numberRow(m.Mark), numberRow(m.Prev), numberRow(m.PrevMark)}
}

func bodyOf(m api.Manifest) []byte { return slices.Concat(rowsOf(m)...) }

// slowEncode is the bytes of P15.2, of any manifest.
func slowEncode(m api.Manifest) []byte { return framed(bodyOf(m)) }

// slowWhole is the body of the frame at the beginning, if one stands there whole.
func slowWhole(b []byte) ([]byte, bool) {
	if len(b) < 8 {
		return nil, false
	}
	n := binary.LittleEndian.Uint32(b)
	if n == 0 || n > 65536 || int(n) > len(b)-8 {
		return nil, false
	}
	body := b[8 : 8+n]
	return body, binary.LittleEndian.Uint32(b[4:]) == crc32.Checksum(slices.Concat(b[:4], body), castagnoli)
}

// slowNumber is the number at the beginning, what stands behind it, and chapter 1's error.
func slowNumber(b []byte) (int, []byte, api.Errno) {
	n, unit := 0, 1
	for i := 0; ; i++ {
		if i == len(b) {
			return 0, nil, api.ErrShort
		}
		if i == 8 && b[i] >= 128 {
			return 0, nil, api.ErrRange
		}
		n += int(b[i]%128) * unit
		unit *= 128
		if b[i] >= 128 {
			continue
		}
		if i > 0 && b[i] == 0 {
			return 0, nil, api.ErrForm
		}
		return n, b[i+1:], api.OK
	}
}

// slowText is the text at the beginning, of 8 bytes at most, what stands behind it, and chapter 1's error.
func slowText(b []byte) (string, []byte, api.Errno) {
	n, b, e := slowNumber(b)
	switch {
	case e != api.OK:
		return "", nil, e
	case n > 8:
		return "", nil, api.ErrLong
	case n > len(b):
		return "", nil, api.ErrShort
	}
	return string(b[:n]), b[n:], api.OK
}

// slowDecode is P15.3.
func slowDecode(b []byte) (api.Manifest, api.Errno) {
	if len(b) == 0 {
		return api.Manifest{}, api.ErrEnd
	}
	body, whole := slowWhole(b)
	if !whole {
		return api.Manifest{}, api.ErrTorn
	}
	if len(b) != 8+len(body) {
		return api.Manifest{}, api.ErrForm
	}
	s, rest, e := slowText(body)
	if e != api.OK {
		return api.Manifest{}, e
	}
	if s != "manifest" {
		return api.Manifest{}, api.ErrForm
	}
	var five [5]int
	for i := range five {
		if five[i], rest, e = slowNumber(rest); e != api.OK {
			return api.Manifest{}, e
		}
	}
	if len(rest) > 0 || !slowMayBe(of(five)) {
		return api.Manifest{}, api.ErrForm
	}
	return of(five), api.OK
}

// slowInstall is P15.4.
func slowInstall(d *disk.Disk, m api.Manifest) (bool, api.Errno) {
	if d == nil || !slowMayBe(m) {
		return false, api.ErrArg
	}
	names, e := d.List()
	if e != api.OK {
		return false, e
	}
	for _, name := range names {
		if name != "manifest.new" {
			continue
		}
		if e := d.Remove("manifest.new"); e != api.OK {
			return false, e
		}
	}
	if e := d.Create("manifest.new"); e != api.OK {
		return false, e
	}
	if e := d.Append("manifest.new", slowEncode(m)); e != api.OK {
		return false, e
	}
	if e := d.Sync("manifest.new"); e != api.OK {
		return false, e
	}
	if e := d.Rename("manifest.new", "manifest"); e != api.OK {
		return false, e
	}
	return true, d.SyncNames()
}
