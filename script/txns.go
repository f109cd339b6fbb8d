package script

import (
	"strings"

	"treadle/api"
	"treadle/asm"
	"treadle/datum"
	"treadle/proc"
)

// The first words of the lines behind that of a submit.
const (
	wordCall = "call"
	wordProc = "proc"
	wordDone = "done"
	wordEnd  = "end" // of a procedure
)

// The blanks ahead of these lines, where they are written.
const (
	callBlanks = 2
	procBlanks = 4
)

// takeTxns takes the lines of a submit, up to the one that ends them.
func takeTxns(r *reading, s *api.Step) {
	r.end()
	for r.advance() {
		switch r.word() {
		case wordCall:
			s.Txns = append(s.Txns, r.call())
		case wordProc:
			s.Txns = append(s.Txns, r.definition())
		case wordDone:
			return
		default:
			r.refuse()
		}
	}
	r.refuse() // the text has ended, if nothing was refused ahead
}

// call takes what stands behind the word of a call.
func (r *reading) call() api.Txn {
	t := api.Txn{Kind: api.TxnCall, Name: strings.Clone(r.word())}
	r.insist(isProcName(t.Name))
	for r.more() {
		t.Args = append(t.Args, r.value())
	}
	return t
}

// definition takes the procedure whose first line is read, with its lines up to its end.
func (r *reading) definition() api.Txn {
	ahead := r.place - 1
	var text strings.Builder
	text.WriteString(r.text)
	for ended := false; !ended && r.pull(); {
		text.WriteString(r.text)
		ended = len(r.words) > 0 && r.words[0] == wordEnd
	}
	p, at, err := asm.Parse(text.String())
	if err != api.OK {
		r.fail(ahead+at, err)
	}
	return api.Txn{Kind: api.TxnDefine, Proc: p}
}

// isProcName tells whether a text is a procedure's name: whether one that has nothing but its name is one.
func isProcName(s string) bool {
	_, err := proc.Check(api.Proc{Name: s})
	return err == api.OK
}

// showTxns writes what is behind a submit's first word, up to the word that ends it.
func showTxns(p *printing, s *api.Step) {
	p.end()
	for _, t := range s.Txns {
		switch t.Kind {
		case api.TxnDefine:
			p.definition(t.Proc)
		case api.TxnCall:
			p.call(t.Name, t.Args)
		default:
			p.fail(api.ErrStep)
		}
	}
	p.word(wordDone)
}

func (p *printing) definition(of api.Proc) {
	text, err := asm.Print(of)
	if err != api.OK {
		p.fail(err)
	}
	for row := range strings.Lines(text) {
		p.indent(procBlanks)
		p.out.WriteString(row)
	}
}

func (p *printing) call(name string, args []api.Value) {
	if !isProcName(name) {
		p.fail(api.ErrStep)
	}
	p.indent(callBlanks)
	p.word(wordCall)
	p.word(name)
	for _, v := range args {
		if datum.Check(v) != api.OK {
			p.fail(api.ErrStep)
		}
		p.value(v)
	}
	p.end()
}
