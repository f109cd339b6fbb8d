package seglog

import (
	"iter"
	"slices"

	"treadle/api"
	"treadle/batch"
	"treadle/frame"
)

// Scan goes through the batches of a segment's bytes, each with the place behind it, as long as they are whole and follow one another.
func Scan(data []byte, first int) iter.Seq2[api.Batch, int] {
	// Who hands the bytes in may change them ahead of the loop, or inside it.
	own := slices.Clone(data)
	return func(yield func(api.Batch, int) bool) {
		follows := first
	scanning:
		for body, end := range bodies(own) {
			b, e := batch.Decode(body)
			switch {
			case e != api.OK, b.First != follows:
				break scanning
			case !yield(b, end):
				break scanning
			}
			follows += len(b.Txns)
		}
	}
}

// bodies goes through the frames from the beginning on till one is not whole: the body of each, and the place behind it.
func bodies(row []byte) iter.Seq2[[]byte, int] {
	return func(yield func([]byte, int) bool) {
		at := 0
		for {
			body, end, e := frame.Next(row, at)
			if e != api.OK || !yield(body, end) {
				return
			}
			at = end
		}
	}
}
