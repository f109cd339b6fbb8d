package asm

import (
	"strconv"
	"strings"

	"treadle/api"
)

const (
	numberDigits = 9 // of the greatest number
	hexDigits    = "0123456789abcdef"
	wordNone     = "none"
)

// comparisons is the words of the comparisons, each at the place of its number.
func comparisons() []string {
	return []string{
		api.CompareEqual:   "=",
		api.CompareUnlike:  "!=",
		api.CompareLess:    "<",
		api.CompareMost:    "<=",
		api.CompareGreater: ">",
		api.CompareLeast:   ">=",
	}
}

func showComparison(n int) string { return comparisons()[n] }

func takeComparison(word string) int {
	for n, w := range comparisons() {
		if w == word { // no word is empty: not the place 0
			return n
		}
	}
	panic(refusal{})
}

// takeName takes a plain word; whether it is a name, Check tells. A text in
// quotes is a VALUE, whatever it says: no other place takes one.
func takeName(word string) string {
	insist(!isQuoted(word))
	return strings.Clone(word)
}

func showRegister(n int) string { return "r" + strconv.Itoa(n) }

func takeRegister(word string) int {
	digits, ok := strings.CutPrefix(word, "r")
	n := takeNumber(digits)
	insist(ok && n < api.MaxRegs)
	return n
}

func takeNumber(word string) int {
	insist(areDigits(word) && len(word) <= numberDigits)
	n, _ := strconv.Atoi(word)
	return n
}

// areDigits tells whether a word is decimal digits in their one form: no nought ahead of others.
func areDigits(word string) bool {
	for _, c := range word {
		if c < '0' || c > '9' {
			return false
		}
	}
	return word == "0" || word != "" && word[0] != '0'
}

func showValue(v api.Value) string {
	switch v.Kind {
	case api.KindInt:
		return strconv.FormatInt(v.Int, 10)
	case api.KindText:
		return quote(v.Text)
	}
	return wordNone
}

func takeValue(word string) api.Value {
	switch {
	case word == wordNone:
		return api.Value{}
	case isQuoted(word):
		text, _ := takeQuoted(word)
		return api.Value{Kind: api.KindText, Text: text}
	}
	return api.Value{Kind: api.KindInt, Int: takeInt(word)}
}

func takeInt(word string) int64 {
	digits, minus := strings.CutPrefix(word, "-")
	insist(areDigits(digits) && !(minus && digits == "0"))
	n, err := strconv.ParseInt(word, 10, 64)
	insist(err == nil)
	return n
}

// quote is a text in quotes.
func quote(s string) string {
	out := []byte{'"'}
	for i := range len(s) {
		switch c := s[i]; {
		case c == '"' || c == '\\':
			out = append(out, '\\', c)
		case standsForItself(rune(c)):
			out = append(out, c)
		default:
			out = append(out, '\\', 'x', hexDigits[c>>4], hexDigits[c&15])
		}
	}
	return string(append(out, '"'))
}

// isQuoted tells whether the word at the beginning of s is a text in quotes.
func isQuoted(s string) bool { return s[0] == '"' }

// takeQuoted is what the text in quotes at the beginning of s says, and how
// many bytes it has there, with its quotes.
func takeQuoted(s string) (string, int) {
	var out []byte
	next := 1 // the bytes ahead of it are taken
reading:
	for i, c := range s {
		switch {
		case i < next:
		case c == '"':
			return string(out), i + 1
		case c == '\\':
			b, n := takeEscaped(s[i:])
			out = append(out, b)
			next = i + n
		case standsForItself(c):
			out = append(out, byte(c))
		default:
			break reading
		}
	}
	panic(refusal{})
}

// standsForItself tells whether a sign may stand within quotes as it is; the quote and the stroke are asked for ahead of it.
func standsForItself(c rune) bool { return ' ' <= c && c <= '~' }

// takeEscaped is the byte that a stroke and what stands behind it mean, and how many bytes these are.
func takeEscaped(s string) (byte, int) {
	switch {
	case len(s) > 1 && (s[1] == '"' || s[1] == '\\'):
		return s[1], 2
	case len(s) > 3 && s[1] == 'x':
		return takeHex(s[2])<<4 | takeHex(s[3]), 4
	}
	panic(refusal{})
}

func takeHex(c byte) byte {
	n := strings.IndexByte(hexDigits, c)
	insist(n >= 0)
	return byte(n)
}
