package zigzag

import (
	"iter"

	"treadle/api"
)

// behind is the least text above another.
func behind(text string) string { return text + "\x00" }

// least is the least key from one text to another in whose slot something is seen, with that; an empty to: to the end.
func (s *Store[V]) least(from, to string, see func(*api.Slot[V]) (V, bool)) (string, V, bool) {
	if s == nil {
		return "", *new(V), false
	}
	for key, slot := range s.slots.Range(from, to) {
		if v, has := see(slot); has {
			return key, v, true
		}
	}
	return "", *new(V), false
}

// steps goes through what is found from a text on, and then, time and again, behind the last key.
// It keeps that key and no slot: between two steps the store may be written to, and that slot be gone.
func steps[V any](first string, find func(from string) (string, V, bool)) iter.Seq2[string, V] {
	return func(yield func(string, V) bool) {
		for from := first; ; {
			key, v, is := find(from)
			if !is {
				return
			}
			// A text of its own: the key that is handed on is the body's.
			from = behind(key)
			if !yield(key, v) {
				return
			}
		}
	}
}
