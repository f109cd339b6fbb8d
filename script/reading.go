package script

import (
	"iter"
	"strings"

	"treadle/api"
	"treadle/datum"
	"treadle/spelling"
)

// line is a line of a text.
type line struct {
	place int      // its number, from 1 on
	text  string   // with its byte 10, if it has one
	words []string // those that are not taken yet
	spelt bool     // it has nothing but words
}

// lines goes through the lines of a text.
func lines(text string) iter.Seq[line] {
	return func(yield func(line) bool) {
		place := 0
		for row := range strings.Lines(text) {
			place++
			words, ok := split(strings.TrimSuffix(row, "\n"))
			if !yield(line{place, row, words, ok}) {
				return
			}
		}
	}
}

// split is the words of a line, and whether it has nothing else.
func split(text string) (words []string, ok bool) {
	rest := text
splitting:
	for {
		word, behind, ok := spelling.Next(rest)
		switch {
		case !ok:
			return nil, false
		case word == "":
			break splitting
		}
		words = append(words, word)
		rest = behind
	}
	return words, true
}

// reading is a text that is read line by line, up to what is refused first:
// nothing that is taken behind that counts.
type reading struct {
	line  // the one that is read, or the last one
	table []form
	next  func() (line, bool)
	at    int // the line that was refused
	err   api.Errno
}

// fail gives up with an error of that line, if nothing was refused ahead.
func (r *reading) fail(at int, err api.Errno) {
	if r.err == api.OK {
		r.at, r.err = at, err
	}
}

// refuse gives up, as the line that is read is not as it should be.
func (r *reading) refuse() { r.fail(r.place, api.ErrText) }

// insist gives up, if something is not as it should be.
func (r *reading) insist(ok bool) {
	if !ok {
		r.refuse()
	}
}

// pull takes the next line, whatever it says; at the text's end the last one stays.
func (r *reading) pull() bool {
	l, ok := r.next()
	if ok {
		r.line = l
	}
	return ok
}

// advance goes on to the next line that says something, and tells whether there is one.
func (r *reading) advance() bool {
	for r.err == api.OK && r.pull() {
		r.insist(r.spelt)
		if len(r.words) > 0 {
			return true
		}
	}
	return false
}

// more tells whether words are left in the line.
func (r *reading) more() bool { return r.err == api.OK && len(r.words) > 0 }

// end insists that none is.
func (r *reading) end() { r.insist(len(r.words) == 0) }

// word takes the next word; where there is none, it is empty, which no word is.
func (r *reading) word() string {
	if len(r.words) == 0 {
		r.refuse()
		return ""
	}
	word := r.words[0]
	r.words = r.words[1:]
	return word
}

func (r *reading) number() int {
	n, ok := spelling.Int(r.word())
	r.insist(ok)
	return int(n)
}

func (r *reading) quoted() string {
	text, ok := spelling.Text(r.word())
	r.insist(ok)
	return text
}

func (r *reading) value() api.Value {
	v, ok := spelling.Value(r.word())
	r.insist(ok && datum.Check(v) == api.OK)
	return v
}

// step takes the step that the line begins.
func (r *reading) step() api.Step {
	kind := kindOf(r.table, r.word())
	r.insist(kind > 0)
	s := api.Step{Kind: kind}
	for _, p := range r.table[kind].parts {
		p.take(r, &s)
	}
	r.end()
	return s
}
