package asm

import (
	"iter"
	"strings"

	"treadle/api"
	"treadle/spelling"
)

// refusal is what a reading is given up with: a type of its own, so that no
// other panic is taken for it. Which line is refused the reading knows.
type refusal struct{}

// insist gives up, if something is not as it should be.
func insist(ok bool) {
	if !ok {
		panic(refusal{})
	}
}

// lines goes through the lines of a text, each with its number.
func lines(text string) iter.Seq2[int, string] {
	return func(yield func(int, string) bool) {
		rest := text
		for n := 1; rest != ""; n++ {
			line, behind, _ := strings.Cut(rest, "\n")
			if !yield(n, line) {
				return
			}
			rest = behind
		}
	}
}

// words goes through the words of a line, up to a remark; a text in quotes keeps its quotes.
func words(line string) iter.Seq[string] {
	return func(yield func(string) bool) {
		rest := line
		for {
			word, behind, ok := spelling.Next(rest)
			insist(ok)
			if word == "" || !yield(word) {
				return
			}
			rest = behind
		}
	}
}

// reading is what was read of a text so far.
type reading struct {
	table []form
	proc  api.Proc
	line  int   // the one that is read, or the last one
	head  int   // the line of the procedure's name; 0: there was none yet
	at    []int // the line of each instruction
	ended bool
}

// newReading is at the first line, which is also the last one of no text.
func newReading() *reading { return &reading{table: forms(), line: 1} }

// read reads a whole text.
func (r *reading) read(text string) {
	for n, line := range lines(text) {
		r.line = n
		r.readLine(line)
	}
	insist(r.ended)
}

// readLine reads a line by its first word.
func (r *reading) readLine(line string) {
	switch word := first(line); {
	case word == "": // it says nothing
	case r.ended:
		panic(refusal{})
	case r.head == 0:
		r.readHead(line)
	case word == wordEnd:
		exactly(line, 1)
		r.ended = true
	default:
		r.readInstr(line, find(r.table, word))
	}
}

// first is the first word of a line, or an empty one, if there is none.
func first(line string) string {
	for w := range words(line) {
		return w
	}
	return ""
}

// exactly is the words of a line that must have so many; it looks at no more than one beyond.
func exactly(line string, want int) []string {
	var out []string
	for w := range words(line) {
		insist(len(out) < want)
		out = append(out, w)
	}
	insist(len(out) == want)
	return out
}

// readHead reads the first line that says something.
func (r *reading) readHead(line string) {
	all := exactly(line, 3)
	insist(all[0] == wordProc)
	r.proc.Name = takeName(all[1])
	r.proc.Args = takeNumber(all[2])
	r.head = r.line
}

// readInstr reads an instruction of this operation.
func (r *reading) readInstr(line string, op int) {
	fields := r.table[op].fields
	all := exactly(line, 1+len(fields))
	in := api.Instr{Op: op}
	for i, f := range fields {
		f.take(&in, all[1+i])
	}
	// Check refuses one too many: further ones would only take room.
	if len(r.proc.Code) <= api.MaxCode {
		r.proc.Code = append(r.proc.Code, in)
		r.at = append(r.at, r.line)
	}
}

// lineOf is the line of the instruction at this place; of none (-1) it is that of the name.
func (r *reading) lineOf(place int) int {
	if place < 0 {
		return r.head
	}
	return r.at[place]
}
