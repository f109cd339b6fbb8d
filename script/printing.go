package script

import (
	"strconv"
	"strings"

	"treadle/api"
	"treadle/spelling"
)

// printing is a text that is written word by word, up to what offends first:
// nothing that is written behind that counts.
type printing struct {
	table  []form
	out    strings.Builder
	within bool // a word stands in the line already
	err    api.Errno
}

// fail gives up with an error, if nothing has offended ahead.
func (p *printing) fail(err api.Errno) {
	if p.err == api.OK {
		p.err = err
	}
}

// indent lays blanks ahead of a line.
func (p *printing) indent(blanks int) { p.out.WriteString(strings.Repeat(" ", blanks)) }

// word writes a word.
func (p *printing) word(w string) {
	if p.within {
		p.out.WriteByte(' ')
	}
	p.out.WriteString(w)
	p.within = true
}

func (p *printing) number(n int)      { p.word(strconv.Itoa(n)) }
func (p *printing) quoted(s string)   { p.word(spelling.Quote(s)) }
func (p *printing) value(v api.Value) { p.word(spelling.OfValue(v)) }

// end ends the line.
func (p *printing) end() {
	p.out.WriteByte('\n')
	p.within = false
}

// step writes a step.
func (p *printing) step(s api.Step) {
	if !isKind(p.table, s.Kind) {
		p.fail(api.ErrStep)
		return
	}
	f := p.table[s.Kind]
	p.word(f.word)
	for _, x := range f.parts {
		x.show(p, &s)
	}
	p.end()
}
