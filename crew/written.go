package crew

import (
	"slices"

	"treadle/api"
	"treadle/zigzag"
)

// written is what the transactions of a round write; its zero value is nothing.
type written struct {
	keys  zigzag.Store[struct{}] // A look is a span of keys, so they are kept in their order.
	names map[string]struct{}    // of procedures
}

// add counts in what a transaction writes.
func (w *written) add(e effect) {
	for _, entry := range e.Writes {
		w.keys.Put(entry.Key, struct{}{})
	}
	if e.defines == nil {
		return
	}
	if w.names == nil {
		w.names = map[string]struct{}{}
	}
	w.names[e.defines.Name] = struct{}{}
}

// meets tells whether a transaction looks at any of it.
func (w *written) meets(e effect) bool {
	_, defined := w.names[e.asks]
	return defined || slices.ContainsFunc(e.Looks, w.within)
}

// within tells whether any of the keys lies in a span.
func (w *written) within(s api.Span) bool {
	if _, is := w.keys.Get(s.From); is {
		return true
	}
	key, is := w.keys.Next(s.From)
	return is && (s.To == "" || key <= s.To)
}
