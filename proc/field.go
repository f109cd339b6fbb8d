package proc

import (
	"treadle/api"
	"treadle/datum"
	"treadle/octet"
)

// spot is what a field is held against: how many arguments its procedure has,
// and how many instructions stand behind its own.
type spot struct {
	args, behind int
}

// field is a number that an operation has: which part of an instruction it is,
// whether it may be so great there, and its bytes.
type field struct {
	part func(in *api.Instr) *int
	fits func(n int, s spot) bool
	lay  func(w *octet.Writer, n int)
	take func(r *octet.Reader) int
}

// operation is the fields of an operation, in the order of their bytes, and
// whether a Value stands behind them.
type operation struct {
	fields []field
	value  bool
}

// operations is the fields of all operations, each at the place of its number.
func operations() []operation {
	a, b, c := register(partA), register(partB), register(partC)
	argument, skipped := number(partN, isArgument), number(partA, isSkip)
	compare, look := number(partN, isComparison), number(partN, isLook)
	return []operation{
		api.OpSet:   {fields: []field{a}, value: true},
		api.OpArg:   {fields: []field{a, argument}},
		api.OpGet:   {fields: []field{a, b}},
		api.OpPut:   {fields: []field{a, b}},
		api.OpDel:   {fields: []field{a}},
		api.OpAdd:   {fields: []field{a, b, c}},
		api.OpSub:   {fields: []field{a, b, c}},
		api.OpMul:   {fields: []field{a, b, c}},
		api.OpJoin:  {fields: []field{a, b, c}},
		api.OpNeed:  {fields: []field{b, c, compare}},
		api.OpSkip:  {fields: []field{skipped, b, c, compare}},
		api.OpSum:   {fields: []field{a, b, c, look}},
		api.OpCount: {fields: []field{a, b, c, look}},
		api.OpNext:  {fields: []field{a, b}},
		api.OpTell:  {fields: []field{a}},
		api.OpStop:  {},
	}
}

// find is the operation of a number; the table's place 0 is none.
func find(table []operation, op int) (operation, bool) {
	if !within(op, 1, len(table)-1) {
		return operation{}, false
	}
	return table[op], true
}

// check tells why an instruction of this operation may not stand at its spot.
func (o operation) check(in api.Instr, s spot) api.Errno {
	rest := in // less and less of it, till what is left is what the operation does not have
	rest.Op = 0
	for _, f := range o.fields {
		n := f.part(&rest)
		if !f.fits(*n, s) {
			return api.ErrOp
		}
		*n = 0
	}
	if o.value {
		rest.Value = api.Value{}
	}
	if rest != (api.Instr{}) {
		return api.ErrOp
	}
	return datum.Check(in.Value) // where the operation has none it is nothing, which is a value
}

// register is a field that is a register: one byte.
func register(part func(in *api.Instr) *int) field {
	return field{part, isRegister, layByte, takeByte}
}

// number is a field that is another number.
func number(part func(in *api.Instr) *int, fits func(n int, s spot) bool) field {
	return field{part, fits, (*octet.Writer).Number, (*octet.Reader).Number}
}

func partA(in *api.Instr) *int { return &in.A }
func partB(in *api.Instr) *int { return &in.B }
func partC(in *api.Instr) *int { return &in.C }
func partN(in *api.Instr) *int { return &in.N }

func isRegister(n int, _ spot) bool   { return within(n, 0, api.MaxRegs-1) }
func isArgument(n int, s spot) bool   { return within(n, 0, s.args-1) }
func isSkip(n int, s spot) bool       { return within(n, 1, s.behind) }
func isComparison(n int, _ spot) bool { return within(n, api.CompareEqual, api.CompareLeast) }
func isLook(n int, _ spot) bool       { return within(n, 1, api.MaxLook) }

func layByte(w *octet.Writer, n int) { w.Byte(byte(n)) }
func takeByte(r *octet.Reader) int   { return int(r.Byte()) }
