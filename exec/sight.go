package exec

import (
	"iter"
	"strings"

	"treadle/api"
)

// Nothing in this file asks the View for what is not within the look that is told of it.

// seen is what a key has, with the call's own writes on the state.
func (m *machine) seen(key string) api.Value {
	if v, own := m.writes[key]; own {
		return v
	}
	if m.view == nil {
		return api.Value{}
	}
	v, has := m.view.Get(key)
	if !has {
		return api.Value{}
	}
	return v
}

// above is the least key above a text, and not above `to` (empty: up to the end), that is seen to have something; empty, if there is none.
func (m *machine) above(text, to string) string {
	own := m.ownAbove(text)
	for to == "" || text < to {
		key := m.viewAbove(text)
		if key == "" || own != "" && own <= key {
			key = own
		}
		if to != "" && key > to {
			return ""
		}
		// Of an own key that has something ownAbove has told; any other is deleted.
		if _, written := m.writes[key]; !written || key == own {
			return key
		}
		text = key
	}
	return ""
}

// ownAbove is the least key above a text that the call has written, and not deleted since; empty, if there is none.
func (m *machine) ownAbove(text string) string {
	least := ""
	for key, v := range m.writes {
		if v.Kind != api.KindNone && key > text && (least == "" || key < least) {
			least = key
		}
	}
	return least
}

// viewAbove is the View's least key above a text; empty, if there is none.
func (m *machine) viewAbove(text string) string {
	if m.view == nil {
		return ""
	}
	key, is := m.view.Next(text)
	// A View that answers what is not above would be asked for ever.
	if !is || key <= text {
		return ""
	}
	return key
}

// keys goes through the keys that are seen to have something, from one bound to another, both counted in.
func (m *machine) keys(from, to string) iter.Seq[string] {
	return func(yield func(string) bool) {
		if from != "" && m.seen(from).Kind != api.KindNone && !yield(from) {
			return
		}
		for key := m.above(from, to); key != "" && yield(key); {
			key = m.above(key, to)
		}
	}
}

// through hands on the keys between the bounds of an instruction, so many at most as it says, and keeps what was looked at.
func (m *machine) through(in api.Instr, each func(key string) api.Errno) {
	from, to := m.bound(in.B), m.bound(in.C)
	if to != "" && to < from {
		return
	}
	n, e, last := 0, api.OK, to
	for key := range m.keys(from, to) {
		n++
		e = each(key)
		if n == in.N || e != api.OK {
			last = key
			break
		}
	}
	m.look(from, last)
	insist(e)
}

// look keeps what of the state was asked for.
func (m *machine) look(from, to string) {
	m.looks = append(m.looks, api.Span{From: strings.Clone(from), To: strings.Clone(to)})
}
