// Package numbered is the names of files that have a number: segments and checkpoints name theirs alike, but for the beginning.
package numbered

import "treadle/api"

const (
	digitCount = 12 // behind the beginning
	digitWidth = 4  // binary digits in one of them
)

// digits is a constant table: the sign of each.
var digits = [1 << digitWidth]byte{'0', '1', '2', '3', '4', '5', '6', '7', '8', '9', 'a', 'b', 'c', 'd', 'e', 'f'}

// Name is the beginning and the number's digits; of a number that none has, nothing.
func Name(beginning string, number int) string {
	if number < 1 || number > api.MaxNumber {
		return ""
	}
	rest := uint64(number)
	var signs [digitCount]byte
	for i := range signs {
		signs[digitCount-1-i] = digits[rest%(1<<digitWidth)]
		rest >>= digitWidth
	}
	return beginning + string(signs[:])
}

// Number is the number that a name of that beginning says, and whether it is one.
func Number(beginning, name string) (int, bool) {
	if len(name) != len(beginning)+digitCount {
		return 0, false
	}
	said := uint64(0)
	for _, sign := range []byte(name[len(beginning):]) {
		said = said<<digitWidth | digitOf(sign)
	}
	// What is no digit was taken as 0, and what stands ahead was not looked at: both are another name.
	if Name(beginning, int(said)) != name {
		return 0, false
	}
	return int(said), true
}

// digitOf is the digit of a sign; 0, if it is none.
func digitOf(sign byte) uint64 {
	for i, s := range digits {
		if s == sign {
			return uint64(i)
		}
	}
	return 0
}
