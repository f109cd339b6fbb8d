package asm

import (
	"strconv"

	"treadle/api"
	"treadle/spelling"
)

// The words of the lines that are no instructions.
const (
	wordProc = "proc"
	wordEnd  = "end"
)

// field is a word behind an instruction's first one: how it is taken into the
// instruction, and how it is shown.
type field struct {
	take func(in *api.Instr, word string)
	show func(in *api.Instr) string
}

// form is how an instruction is written: its first word, and its fields in
// the order in which they stand there.
type form struct {
	word   string
	fields []field
}

// forms is how the instructions are written, each at the place of its operation.
func forms() []form {
	a, b, c := register(partA), register(partB), register(partC)
	n, skipped, compare := number(partN), number(partA), comparison(partN)
	return []form{
		api.OpSet:   {"set", []field{a, value()}},
		api.OpArg:   {"arg", []field{a, n}},
		api.OpGet:   {"get", []field{a, b}},
		api.OpPut:   {"put", []field{a, b}},
		api.OpDel:   {"del", []field{a}},
		api.OpAdd:   {"add", []field{a, b, c}},
		api.OpSub:   {"sub", []field{a, b, c}},
		api.OpMul:   {"mul", []field{a, b, c}},
		api.OpJoin:  {"join", []field{a, b, c}},
		api.OpNeed:  {"need", []field{b, compare, c}},
		api.OpSkip:  {"skip", []field{skipped, b, compare, c}},
		api.OpSum:   {"sum", []field{a, b, c, n}},
		api.OpCount: {"count", []field{a, b, c, n}},
		api.OpNext:  {"next", []field{a, b}},
		api.OpTell:  {"tell", []field{a}},
		api.OpStop:  {"stop", nil},
	}
}

// find is the operation that has this first word; no word is empty, so that the table's place 0 is never found.
func find(table []form, word string) int {
	for op, f := range table {
		if f.word == word {
			return op
		}
	}
	panic(refusal{})
}

// words is an instruction that Check has taken, word by word.
func (f form) words(in *api.Instr) []string {
	out := []string{f.word}
	for _, x := range f.fields {
		out = append(out, x.show(in))
	}
	return out
}

// plain is a field that is a number, in one or the other way of writing it.
func plain(part func(in *api.Instr) *int, take func(word string) int, show func(n int) string) field {
	return field{
		take: func(in *api.Instr, word string) { *part(in) = take(word) },
		show: func(in *api.Instr) string { return show(*part(in)) },
	}
}

func register(part func(in *api.Instr) *int) field { return plain(part, takeRegister, showRegister) }
func number(part func(in *api.Instr) *int) field   { return plain(part, takeNumber, strconv.Itoa) }
func comparison(part func(in *api.Instr) *int) field {
	return plain(part, takeComparison, showComparison)
}

func value() field {
	return field{
		take: func(in *api.Instr, word string) { in.Value = takeValue(word) },
		show: func(in *api.Instr) string { return spelling.OfValue(in.Value) },
	}
}

func partA(in *api.Instr) *int { return &in.A }
func partB(in *api.Instr) *int { return &in.B }
func partC(in *api.Instr) *int { return &in.C }
func partN(in *api.Instr) *int { return &in.N }
