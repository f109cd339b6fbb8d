package batch

import (
	"treadle/api"
	"treadle/datum"
	"treadle/octet"
	"treadle/proc"
)

// deed is a transaction by its kind: a definition or a call.
type deed interface {
	check() api.Errno // why it is none, what its arguments are left aside
}

type definition api.Txn

type call api.Txn

// deedOf is the transaction by its kind; nil, if that is none.
func deedOf(t api.Txn) deed {
	switch t.Kind {
	case api.TxnDefine:
		return definition(t)
	case api.TxnCall:
		return call(t)
	}
	return nil
}

// check tells why a transaction is none, what its arguments are left aside.
func check(t api.Txn) api.Errno {
	if d := deedOf(t); d != nil {
		return d.check()
	}
	return api.ErrArg
}

func (d definition) check() api.Errno {
	if d.Name != "" || len(d.Args) > 0 {
		return api.ErrForm
	}
	_, e := proc.Check(d.Proc)
	return e
}

func (c call) check() api.Errno {
	switch {
	case c.Proc.Name != "" || c.Proc.Args != 0 || len(c.Proc.Code) > 0:
		return api.ErrForm
	case !isProcName(c.Name):
		return api.ErrName
	case len(c.Args) > api.MaxArgs:
		return api.ErrLong
	}
	return api.OK
}

// isProcName tells whether a text is a procedure's name: of a procedure
// that has nothing but a name, the name is all that can be refused.
func isProcName(s string) bool {
	_, e := proc.Check(api.Proc{Name: s})
	return e == api.OK
}

// lay lays a transaction that Check has taken.
func lay(w *octet.Writer, d deed) {
	switch x := d.(type) {
	case definition:
		w.Byte(api.TxnDefine)
		b, _ := proc.Encode(x.Proc)
		w.Text(string(b))
	case call:
		w.Byte(api.TxnCall)
		w.Text(x.Name)
		w.Number(len(x.Args))
		for _, v := range x.Args {
			b, _ := datum.Encode(v)
			w.Text(string(b))
		}
	}
}
