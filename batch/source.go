package batch

import (
	"treadle/api"
	"treadle/datum"
	"treadle/octet"
	"treadle/proc"
)

// refusal is what Decode gives up with: a type of its own, so that no other panic is taken for it.
type refusal struct{ why api.Errno }

// insist gives up, if there is an error.
func insist(e api.Errno) {
	if e != api.OK {
		panic(refusal{e})
	}
}

// source is the bytes that a batch is taken from; at the first thing that cannot be taken it gives up.
type source struct {
	from *octet.Reader
	size int // bytes of all: the limit of a text that has no other
}

// take is what the bytes say, whether Check takes it or not.
func take(data []byte) api.Batch {
	s := source{from: octet.Read(data), size: len(data)}
	b := api.Batch{First: s.number()}
	b.Txns = make([]api.Txn, s.count(api.MaxTxns, api.ErrArg))
	for i := range b.Txns {
		b.Txns[i] = s.txn()
	}
	insist(s.from.End())
	return b
}

// txn takes a transaction.
func (s source) txn() api.Txn {
	t := api.Txn{Kind: s.kind()}
	switch t.Kind {
	case api.TxnDefine:
		t.Proc = s.proc()
	case api.TxnCall:
		t.Name = s.text(api.MaxProcName)
		t.Args = make([]api.Value, s.count(api.MaxArgs, api.ErrLong))
		for i := range t.Args {
			t.Args[i] = s.value()
		}
	default:
		panic(refusal{api.ErrArg})
	}
	return t
}

// proc takes a procedure, which stands as a text of its bytes.
func (s source) proc() api.Proc {
	p, e := proc.Decode([]byte(s.text(s.size)))
	insist(e)
	return p
}

// value takes a value, which stands as a text of its bytes.
func (s source) value() api.Value {
	v, e := datum.Decode([]byte(s.text(s.size)))
	insist(e)
	return v
}

// count takes how many of something there are, and gives up with the error, if they are more than so many:
// ahead of them, so that room is made for no more.
func (s source) count(most int, e api.Errno) int {
	n := s.number()
	if n > most {
		panic(refusal{e})
	}
	return n
}

func (s source) kind() int {
	c := s.from.Byte()
	s.insistTaken()
	return int(c)
}

func (s source) number() int {
	n := s.from.Number()
	s.insistTaken()
	return n
}

func (s source) text(most int) string {
	t := s.from.Text(most)
	s.insistTaken()
	return t
}

// insistTaken gives up, if what was asked for last was not there.
func (s source) insistTaken() {
	e, _ := s.from.Err()
	insist(e)
}
