package ckpt

import (
	"treadle/api"
	"treadle/zigzag"
)

// piece is what one Step takes.
type piece struct {
	procs   []api.Proc
	entries []api.Entry
}

func (p *piece) size() int { return len(p.procs) + len(p.entries) }

// kind is one of the two kinds of what a checkpoint is made of, as a Job goes through it: behind the last one that was taken.
type kind struct {
	mark func() api.Errno
	left func() bool
	take func(to *piece)
	done func() api.Errno
}

// kindsOf is the two kinds in the order of the file.
func kindsOf(values *zigzag.Store[api.Value], procs *zigzag.Store[api.Proc]) [2]kind {
	return [...]kind{
		kindOf(procs, func(to *piece, _ string, p api.Proc) {
			to.procs = append(to.procs, p)
		}),
		kindOf(values, func(to *piece, key string, v api.Value) {
			to.entries = append(to.entries, api.Entry{Key: key, Value: v})
		}),
	}
}

// kindOf is what a store holds while it is marked; lay puts one of it into a piece.
// Between two Steps the store is written to, so no step of its snapshot is kept but the last key.
func kindOf[V any](s *zigzag.Store[V], lay func(to *piece, key string, v V)) kind {
	last := "" // nobody has the empty key, so all are above it
	return kind{
		mark: s.Mark,
		left: func() bool {
			for range s.Snapshot(last) {
				return true
			}
			return false
		},
		take: func(to *piece) {
			for key, v := range s.Snapshot(last) {
				lay(to, key, v)
				last = key
				return
			}
		},
		done: s.Done,
	}
}
