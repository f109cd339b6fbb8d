// Package spelling is how words, values and texts in quotes are spelt: procedures and scripts spell them alike.
package spelling

import (
	"strconv"
	"strings"

	"treadle/api"
)

const (
	blanks   = " \t"
	remark   = '#'
	wordNone = "none"
)

// Next is the first word of what is left of a line, and what stands behind
// it; an empty one, if nothing is left but a remark. A text in quotes keeps
// its quotes. Ok tells whether what begins there is a word at all.
func Next(rest string) (word, behind string, ok bool) {
	rest = strings.TrimLeft(rest, blanks)
	if rest == "" || rest[0] == remark {
		return "", "", true
	}
	n, ok := size(rest)
	if !ok {
		return "", "", false
	}
	return rest[:n], rest[n:], true
}

// size is how many bytes the word at the beginning of s has.
func size(s string) (int, bool) {
	if IsQuoted(s) {
		_, n, ok := takeQuoted(s)
		return n, ok && (n == len(s) || endsWord(s[n]))
	}
	n := 0
	for n < len(s) && !endsWord(s[n]) {
		n++
	}
	return n, true
}

// endsWord tells whether a byte behind a word is none of it.
func endsWord(c byte) bool { return c == remark || strings.IndexByte(blanks, c) >= 0 }

// Digits tells whether a word is decimal digits in their one form: no nought ahead of others.
func Digits(word string) bool {
	for _, c := range word {
		if c < '0' || c > '9' {
			return false
		}
	}
	return word == "0" || word != "" && word[0] != '0'
}

// Int is the integer of a word, and whether it is one.
func Int(word string) (int64, bool) {
	digits, minus := strings.CutPrefix(word, "-")
	if !Digits(digits) || minus && digits == "0" {
		return 0, false
	}
	n, err := strconv.ParseInt(word, 10, 64)
	if err != nil {
		return 0, false // out of 64 binary digits
	}
	return n, true
}

// Value is what a word says where a value stands, and whether it says one; how long a text is it does not ask.
func Value(word string) (api.Value, bool) {
	if word == wordNone {
		return api.Value{}, true
	}
	if text, ok := Text(word); ok {
		return api.Value{Kind: api.KindText, Text: text}, true
	}
	if n, ok := Int(word); ok {
		return api.Value{Kind: api.KindInt, Int: n}, true
	}
	return api.Value{}, false
}

// OfValue is the word of a value.
func OfValue(v api.Value) string {
	switch v.Kind {
	case api.KindInt:
		return strconv.FormatInt(v.Int, 10)
	case api.KindText:
		return Quote(v.Text)
	}
	return wordNone
}
