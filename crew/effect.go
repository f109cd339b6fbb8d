package crew

import (
	"slices"
	"strings"

	"treadle/api"
	"treadle/datum"
	"treadle/exec"
	"treadle/proc"
	"treadle/zigzag"
)

// state is which keys have which values, and which procedures there are.
type state struct {
	values *zigzag.Store[api.Value]
	procs  *zigzag.Store[api.Proc]
}

// effect is what a transaction does to a state, and what of it it has looked at.
type effect struct {
	api.Effect
	asks    string    // the name of the procedure that it looks at; empty, which is no procedure's name: of none
	defines *api.Proc // nil: nothing
}

// effect is what a transaction does to the state, which stays as it is.
func (s state) effect(t api.Txn) effect {
	switch t.Kind {
	case api.TxnDefine:
		return define(t.Proc)
	case api.TxnCall:
		return s.call(t.Name, t.Args)
	}
	return effect{}
}

// define is what a definition does.
func define(p api.Proc) effect {
	if _, e := proc.Check(p); e != api.OK {
		return effect{}
	}
	own := copied(p)
	return effect{Effect: ended(api.StatusDone), defines: &own}
}

// call is what a call does.
func (s state) call(name string, args []api.Value) effect {
	if len(args) > api.MaxArgs || slices.ContainsFunc(args, isNoValue) {
		return effect{}
	}
	p, is := s.procs.Get(name)
	if !is {
		return effect{Effect: ended(api.StatusName), asks: name}
	}
	return effect{Effect: exec.Run(s.values, p, args), asks: name}
}

// isNoValue tells whether something is no value.
func isNoValue(v api.Value) bool { return datum.Check(v) != api.OK }

// ended is what a transaction does that has a status and nothing else.
func ended(status int) api.Effect { return api.Effect{Outcome: api.Outcome{Status: status}} }

// copied is a procedure in memory of its own: the one that was handed in may not be kept.
func copied(p api.Proc) api.Proc {
	own := api.Proc{Name: strings.Clone(p.Name), Args: p.Args, Code: slices.Clone(p.Code)}
	for i := range own.Code {
		own.Code[i].Value.Text = strings.Clone(own.Code[i].Value.Text)
	}
	return own
}

// lay makes the state what an effect makes of it.
func (s state) lay(e effect) {
	for _, w := range e.Writes {
		if w.Value.Kind == api.KindNone {
			s.values.Delete(w.Key)
		} else {
			s.values.Put(w.Key, w.Value)
		}
	}
	if e.defines != nil {
		s.procs.Put(e.defines.Name, *e.defines)
	}
}
