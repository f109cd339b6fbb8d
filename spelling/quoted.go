package spelling

import "strings"

const (
	quoteSign = '"'
	stroke    = '\\' // stands ahead of what does not stand for itself
	hexSign   = 'x'  // behind a stroke: two digits of a byte come
	hexDigits = "0123456789abcdef"
)

// IsQuoted tells whether what begins there can be a text in quotes alone.
func IsQuoted(s string) bool { return s != "" && s[0] == quoteSign }

// Text is what a word says that is a text in quotes, and whether it is one.
func Text(word string) (string, bool) {
	if !IsQuoted(word) {
		return "", false
	}
	text, n, ok := takeQuoted(word)
	if !ok || n < len(word) {
		return "", false
	}
	return text, true
}

// Quote is a text in quotes.
func Quote(s string) string {
	out := []byte{quoteSign}
	for i := range len(s) {
		switch c := s[i]; {
		case c == quoteSign || c == stroke:
			out = append(out, stroke, c)
		case standsForItself(rune(c)):
			out = append(out, c)
		default:
			out = append(out, stroke, hexSign, hexDigits[c>>4], hexDigits[c&15])
		}
	}
	return string(append(out, quoteSign))
}

// takeQuoted is what the text in quotes at the beginning of s says, and how
// many bytes it has there, with its quotes.
func takeQuoted(s string) (string, int, bool) {
	var out []byte
	next := 1 // the bytes ahead of it are taken
reading:
	for i, c := range s {
		switch {
		case i < next:
		case c == quoteSign:
			return string(out), i + 1, true
		case c == stroke:
			b, n := takeEscaped(s[i:])
			if n == 0 {
				break reading
			}
			out = append(out, b)
			next = i + n
		case standsForItself(c):
			out = append(out, byte(c))
		default:
			break reading
		}
	}
	return "", 0, false
}

// standsForItself tells whether a sign may stand within quotes as it is; the quote and the stroke are asked for ahead of it.
func standsForItself(c rune) bool { return ' ' <= c && c <= '~' }

// takeEscaped is the byte that a stroke and what stands behind it mean, and how many bytes these are: 0, if they mean none.
func takeEscaped(s string) (byte, int) {
	switch {
	case len(s) > 1 && (s[1] == quoteSign || s[1] == stroke):
		return s[1], 2
	case len(s) > 3 && s[1] == hexSign:
		high, low := strings.IndexByte(hexDigits, s[2]), strings.IndexByte(hexDigits, s[3])
		if high >= 0 && low >= 0 {
			return byte(high<<4 | low), 4
		}
	}
	return 0, 0
}
