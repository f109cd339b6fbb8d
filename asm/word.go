package asm

import (
	"strconv"
	"strings"

	"treadle/api"
	"treadle/spelling"
)

const numberDigits = 9 // of the greatest number

// comparisons is the words of the comparisons, each at the place of its number.
func comparisons() []string {
	return []string{
		api.CompareEqual:   "=",
		api.CompareUnlike:  "!=",
		api.CompareLess:    "<",
		api.CompareMost:    "<=",
		api.CompareGreater: ">",
		api.CompareLeast:   ">=",
	}
}

func showComparison(n int) string { return comparisons()[n] }

func takeComparison(word string) int {
	for n, w := range comparisons() {
		if w == word { // no word is empty: not the place 0
			return n
		}
	}
	panic(refusal{})
}

// takeName takes a plain word; whether it is a name, Check tells. A text in
// quotes is a VALUE, whatever it says: no other place takes one.
func takeName(word string) string {
	insist(!spelling.IsQuoted(word))
	return strings.Clone(word)
}

func showRegister(n int) string { return "r" + strconv.Itoa(n) }

func takeRegister(word string) int {
	digits, ok := strings.CutPrefix(word, "r")
	n := takeNumber(digits)
	insist(ok && n < api.MaxRegs)
	return n
}

func takeNumber(word string) int {
	insist(spelling.Digits(word) && len(word) <= numberDigits)
	n, _ := strconv.Atoi(word)
	return n
}

func takeValue(word string) api.Value {
	v, ok := spelling.Value(word)
	insist(ok)
	return v
}
