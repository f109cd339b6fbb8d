package seglog

import "treadle/api"

const (
	beginning  = "log-" // of each segment's name
	digitCount = 12     // of them behind it
	digitWidth = 4      // binary digits in one of them
)

// digits is a constant table: the sign of each.
var digits = [1 << digitWidth]byte{'0', '1', '2', '3', '4', '5', '6', '7', '8', '9', 'a', 'b', 'c', 'd', 'e', 'f'}

// Name is the file of the segment whose first transaction has that number.
func Name(first int) string {
	if first < 1 || first > api.MaxNumber {
		return ""
	}
	rest := uint64(first)
	var signs [digitCount]byte
	for i := range signs {
		signs[digitCount-1-i] = digits[rest%(1<<digitWidth)]
		rest >>= digitWidth
	}
	return beginning + string(signs[:])
}

// First is the number that a segment's name says.
func First(name string) (int, bool) {
	if len(name) != len(beginning)+digitCount {
		return 0, false
	}
	said := uint64(0)
	for _, sign := range []byte(name[len(beginning):]) {
		said = said<<digitWidth | digitOf(sign)
	}
	// What is no digit was taken as 0, and what stands ahead was not looked at: both are another name.
	if Name(int(said)) != name {
		return 0, false
	}
	return int(said), true
}

// digitOf is the digit of a sign; 0, if it is none.
func digitOf(sign byte) uint64 {
	for i, s := range digits {
		if s == sign {
			return uint64(i)
		}
	}
	return 0
}
