package zigzag

import "treadle/api"

// other is the copy that a copy is not.
func other(bit int) int { return 1 - bit }

// read is what the copy that is read has.
func read[V any](slot *api.Slot[V]) (V, bool) {
	return slot.Copies[slot.Read], slot.Has[slot.Read]
}

// held is what the copy that is not written has: while a store is marked nothing touches it.
func held[V any](slot *api.Slot[V]) (V, bool) {
	bit := other(slot.Write)
	return slot.Copies[bit], slot.Has[bit]
}

// lay makes the copy that is written have a value, or empty, and the one that is read; the value of an empty one must be zero.
func lay[V any](slot *api.Slot[V], v V, has bool) {
	slot.Copies[slot.Write], slot.Has[slot.Write] = v, has
	slot.Read = slot.Write
}

// at is the slot of a key, if there is one.
func (s *Store[V]) at(key string) (*api.Slot[V], bool) {
	if s == nil {
		return nil, false
	}
	return s.slots.Get(key)
}

// sweep takes out the slots of which the copy that is read is empty.
func (s *Store[V]) sweep() {
	var empty []string
	for key, slot := range s.slots.Range("", "") {
		if _, has := read(slot); !has {
			empty = append(empty, key)
		}
	}
	for _, key := range empty {
		s.slots.Delete(key)
	}
}
