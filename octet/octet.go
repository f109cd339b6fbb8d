// Package octet is numbers and texts as bytes: see DOC.md, chapter 1.
package octet

import "treadle/api"

const (
	fixedMost = 8    // bytes of a fixed number
	groupSize = 7    // digits of a row's group
	groupMask = 0x7f // the group within its byte
	moreMask  = 0x80 // the digit that says that another byte follows
)

// Writer lays numbers and texts one behind the other; its zero value has none.
type Writer struct {
	data []byte
	err  api.Errno
}

// Byte lays a byte.
func (w *Writer) Byte(v byte) { w.Fixed(uint64(v), 1) }

// Fixed lays the n lowest bytes of v, the lowest first.
func (w *Writer) Fixed(v uint64, n int) {
	if !w.open() {
		return
	}
	if n < 0 || n > fixedMost {
		w.err = api.ErrArg
		return
	}
	for i := range n {
		w.data = append(w.data, byte(v>>(8*i)))
	}
}

// Number lays a number from 0 on.
func (w *Writer) Number(v int) {
	if !w.open() {
		return
	}
	if v < 0 {
		w.err = api.ErrRange
		return
	}
	w.row(uint64(v))
}

// Int lays any integer.
func (w *Writer) Int(v int64) {
	if !w.open() {
		return
	}
	w.row(fold(v))
}

// Text lays a text with its length.
func (w *Writer) Text(s string) {
	if !w.open() {
		return
	}
	w.row(uint64(len(s)))
	w.data = append(w.data, s...)
}

// Data is all that was laid.
func (w *Writer) Data() []byte {
	if w == nil {
		return nil
	}
	return clone(w.data)
}

// Err is why something was not laid.
func (w *Writer) Err() api.Errno {
	if w == nil {
		return api.ErrArg
	}
	return w.err
}

// open tells whether anything is laid any more.
func (w *Writer) open() bool { return w != nil && w.err == api.OK }

// row lays the row of sevens of u.
func (w *Writer) row(u uint64) {
	for u > groupMask {
		w.data = append(w.data, byte(u&groupMask)|moreMask)
		u >>= groupSize
	}
	w.data = append(w.data, byte(u))
}

// Reader takes them again; its zero value has no bytes.
type Reader struct {
	data []byte
	at   int // where the next thing begins, or the one that stopped it
	err  api.Errno
}

// Read is a Reader of these bytes.
func Read(b []byte) *Reader { return &Reader{data: clone(b)} }

// Byte takes a byte.
func (r *Reader) Byte() byte {
	v, _ := r.take(formFixed, 1)
	return byte(v)
}

// Fixed takes n bytes.
func (r *Reader) Fixed(n int) uint64 {
	v, _ := r.take(formFixed, n)
	return v
}

// Number takes a number from 0 on.
func (r *Reader) Number() int {
	v, _ := r.take(formNumber, 0)
	return int(v)
}

// Int takes an integer.
func (r *Reader) Int() int64 {
	v, _ := r.take(formInt, 0)
	return unfold(v)
}

// Text takes a text of at most so many bytes.
func (r *Reader) Text(most int) string {
	_, s := r.take(formText, most)
	return s
}

// Left is how many bytes are left.
func (r *Reader) Left() int {
	if r == nil {
		return 0
	}
	return len(r.data) - r.at
}

// Err is why something was not taken, and at which byte.
func (r *Reader) Err() (api.Errno, int) {
	switch {
	case r == nil:
		return api.ErrArg, 0
	case r.err == api.OK:
		return api.OK, 0
	}
	return r.err, r.at
}

// End is Err, or that something is left.
func (r *Reader) End() api.Errno {
	e, _ := r.Err()
	if e == api.OK && r.Left() > 0 {
		return api.ErrForm
	}
	return e
}

// form is how the bytes at a Reader's place are taken.
type form int

const (
	formFixed form = iota
	formNumber
	formInt
	formText
)

// take takes the next thing: its number, and of a text its bytes. The place
// moves only behind a whole thing, so Left and Err need no more than it.
func (r *Reader) take(f form, n int) (uint64, string) {
	if r == nil || r.err != api.OK {
		return 0, ""
	}
	text := ""
	rest := r.data[r.at:]
	v, size, e := f.lead(rest, n)
	if e != api.OK {
		goto stop
	}
	if f == formText {
		// Held against what is there as unsigned numbers: a length may be near 2^63.
		if v > uint64(max(n, 0)) {
			e = api.ErrLong
			goto stop
		}
		if v > uint64(len(rest)-size) {
			e = api.ErrShort
			goto stop
		}
		text = string(rest[size : size+int(v)])
		size += int(v)
	}
	r.at += size
	return v, text
stop:
	r.err = e
	return 0, ""
}

// lead is the number that a form begins with, and how many bytes it has.
func (f form) lead(b []byte, n int) (uint64, int, api.Errno) {
	switch f {
	case formFixed:
		return fixed(b, n)
	case formInt:
		return row(b, 10, 1) // the tenth byte brings the 64th digit
	}
	return row(b, 9, groupMask) // nine bytes bring 63 digits: an int without its sign
}

// fixed is the number of the first n bytes, the lowest first.
func fixed(b []byte, n int) (uint64, int, api.Errno) {
	if n < 0 || n > fixedMost {
		return 0, 0, api.ErrArg
	}
	if n > len(b) {
		return 0, 0, api.ErrShort
	}
	var v uint64
	for i := range n {
		v |= uint64(b[i]) << (8 * i)
	}
	return v, n, api.OK
}

// row is the number of the row of sevens that b begins with, and its length.
// The byte number last is top at most: more would be digits beyond the number's.
func row(b []byte, last int, top byte) (uint64, int, api.Errno) {
	var u uint64
	for i, c := range b {
		if i+1 == last && c > top {
			return 0, 0, api.ErrRange
		}
		u |= uint64(c&groupMask) << (groupSize * i)
		if c&moreMask != 0 {
			continue
		}
		if i > 0 && c == 0 {
			return 0, 0, api.ErrForm
		}
		return u, i + 1, api.OK
	}
	return 0, 0, api.ErrShort
}

// fold lays the integers below 0 between the others, so that those near 0 have short rows.
func fold(v int64) uint64 {
	u := uint64(v) << 1
	if v < 0 {
		return ^u
	}
	return u
}

// unfold is the integer that fold has made u of.
func unfold(u uint64) int64 {
	v := int64(u >> 1)
	if u&1 != 0 {
		return ^v
	}
	return v
}

// clone is the bytes in memory of their own, without spare room that they share.
func clone(b []byte) []byte {
	c := make([]byte, len(b))
	copy(c, b)
	return c
}
