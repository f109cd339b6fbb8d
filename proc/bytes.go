package proc

import (
	"treadle/api"
	"treadle/datum"
	"treadle/octet"
)

// refusal is what Decode gives up with: a type of its own, so that no other panic is taken for it.
type refusal struct{ why api.Errno }

// insist gives up, if there is an error.
func insist(e api.Errno) {
	if e != api.OK {
		panic(refusal{e})
	}
}

// insistTaken gives up, if what was asked of a Reader last was not there.
func insistTaken(r *octet.Reader) {
	e, _ := r.Err()
	insist(e)
}

// lay lays an instruction that Check has taken.
func (o operation) lay(w *octet.Writer, in *api.Instr) {
	w.Byte(byte(in.Op))
	for _, f := range o.fields {
		f.lay(w, *f.part(in))
	}
	if o.value {
		b, _ := datum.Encode(in.Value)
		w.Text(string(b))
	}
}

// take is what the bytes say, whether Check takes it or not.
func take(b []byte) api.Proc {
	r := octet.Read(b)
	p := api.Proc{}
	p.Name = r.Text(api.MaxProcName)
	p.Args = r.Number()
	n := r.Number()
	insistTaken(r) // a Reader keeps its first error: asked once for all three
	if n > api.MaxCode {
		panic(refusal{api.ErrLong})
	}
	p.Code = make([]api.Instr, n)
	table := operations()
	for i := range p.Code {
		takeInstr(r, table, len(b), &p.Code[i])
	}
	insist(r.End())
	return p
}

// takeInstr takes the next instruction; a text in it has at most so many bytes.
func takeInstr(r *octet.Reader, table []operation, most int, in *api.Instr) {
	in.Op = int(r.Byte())
	insistTaken(r)
	o, ok := find(table, in.Op)
	if !ok {
		panic(refusal{api.ErrOp})
	}
	for _, f := range o.fields {
		*f.part(in) = f.take(r)
		insistTaken(r)
	}
	if o.value {
		in.Value = takeValue(r, most)
	}
}

// takeValue takes a value, which stands as a text of its bytes.
func takeValue(r *octet.Reader, most int) api.Value {
	s := r.Text(most)
	insistTaken(r)
	v, e := datum.Decode([]byte(s))
	insist(e)
	return v
}
