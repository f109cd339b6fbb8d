package page

import (
	"strings"

	"treadle/api"
	"treadle/datum"
	"treadle/frame"
	"treadle/octet"
	"treadle/proc"
)

// piece is the frames of a Page. Each thing is counted as it is laid, so behind an error the Writer is of no use.
func (w *Writer) piece(procs []api.Proc, entries []api.Entry) ([]byte, api.Errno) {
	piece := w.head()
	for _, p := range procs {
		row, e := w.procedure(p)
		if e != api.OK {
			return nil, e
		}
		piece = append(piece, row...)
	}
	if len(entries) == 0 {
		return piece, api.OK
	}
	row, e := w.all(entries)
	if e != api.OK {
		return nil, e
	}
	return append(piece, row...), api.OK
}

// head is the head's frame; nothing, if it was given out.
func (w *Writer) head() []byte {
	if w.frames > 0 {
		return nil
	}
	body := w.begin(kindHead)
	body.Number(w.number)
	body.Number(w.mark)
	return sealed(body)
}

// procedure is a procedure's frame.
func (w *Writer) procedure(p api.Proc) ([]byte, api.Errno) {
	b, e := proc.Encode(p) // its error is that of Check
	switch {
	case e != api.OK:
		return nil, e
	case p.Name <= w.name, w.entries > 0:
		return nil, api.ErrOrder
	}
	w.procs++
	w.name = strings.Clone(p.Name)
	body := w.begin(kindProc)
	body.Text(string(b))
	return sealed(body), api.OK
}

// all is the one frame of entries.
func (w *Writer) all(entries []api.Entry) ([]byte, api.Errno) {
	body := w.begin(kindEntries)
	body.Number(len(entries))
	for _, x := range entries {
		if e := w.lay(body, x); e != api.OK {
			return nil, e
		}
	}
	return sealed(body), api.OK
}

// lay lays an entry behind those that the body has.
func (w *Writer) lay(body *octet.Writer, x api.Entry) api.Errno {
	if !datum.IsKey(x.Key) {
		return api.ErrName
	}
	b, e := datum.Encode(x.Value) // its error is that of Check
	switch {
	case e != api.OK:
		return e
	case x.Value.Kind == api.KindNone:
		return api.ErrKind
	case x.Key <= w.key:
		return api.ErrOrder
	}
	w.entries++
	w.key = strings.Clone(x.Key)
	body.Text(x.Key)
	body.Text(string(b))
	return api.OK
}

// end is the end's frame.
func (w *Writer) end() []byte {
	body := w.begin(kindEnd)
	body.Number(w.procs)
	body.Number(w.entries)
	return sealed(body)
}

// begin is the body of the next frame, as far as all kinds have it.
func (w *Writer) begin(kind byte) *octet.Writer {
	body := &octet.Writer{}
	body.Byte(kind)
	body.Number(w.frames)
	w.frames++
	return body
}

// sealed is the frame of a body. None is too long for one: MaxPage entries with the longest
// keys and texts have 42 thousand bytes, the longest procedure 17 thousand.
func sealed(body *octet.Writer) []byte {
	row, _ := frame.Seal(nil, body.Data())
	return row
}
