package seglog

import "treadle/numbered"

// beginning is what each segment's name has ahead of its digits.
const beginning = "log-"

// Name is the file of the segment whose first transaction has that number.
func Name(first int) string { return numbered.Name(beginning, first) }

// First is the number that a segment's name says.
func First(name string) (int, bool) { return numbered.Number(beginning, name) }
