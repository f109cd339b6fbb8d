package revive

import (
	"iter"
	"maps"
	"slices"

	"treadle/api"
	"treadle/seglog"
)

// segmentsOf is the segments among the names, rising; nothing of them was read.
func segmentsOf(names []string) []api.Segment {
	by := map[int]api.Segment{}
	for _, name := range names {
		if first, is := seglog.First(name); is {
			by[first] = api.Segment{First: first}
		}
	}
	var all []api.Segment
	for _, first := range slices.Sorted(maps.Keys(by)) {
		all = append(all, by[first])
	}
	return all
}

// needed is those of the segments in which there can be something behind the base.
// It is a piece of the list of all: what is learnt of a segment is laid there.
func (o *opening) needed() []api.Segment {
	if len(o.segments) == 0 {
		return nil
	}
	above := slices.IndexFunc(o.segments, func(s api.Segment) bool { return s.First > o.base+1 })
	if above < 0 {
		above = len(o.segments)
	}
	insist(above > 0)
	return o.segments[above-1:]
}

// behind is the batches behind the base, in their order.
func (o *opening) behind() []api.Batch {
	needed := o.needed()
	o.next = o.base + 1
	if len(needed) > 0 {
		o.next = needed[0].First
	}
	var behind []api.Batch
	for b := range o.batches(needed) {
		if b.First > o.base {
			behind = append(behind, b)
			continue
		}
		insist(b.First+len(b.Txns)-1 <= o.base)
	}
	insist(o.next > o.base)
	return behind
}

// batches goes through the batches of some segments, the last of which is the last one there is.
func (o *opening) batches(needed []api.Segment) iter.Seq[api.Batch] {
	return func(yield func(api.Batch) bool) {
		for i := range needed {
			for b := range o.batchesOf(&needed[i]) {
				if !yield(b) {
					return
				}
			}
			insist(o.torn == 0 || i == len(needed)-1)
		}
	}
}

// batchesOf reads a segment and goes through its batches; behind them it is known what follows it, and what of it is torn.
func (o *opening) batchesOf(s *api.Segment) iter.Seq[api.Batch] {
	return func(yield func(api.Batch) bool) {
		data := o.read(seglog.Name(s.First))
		insist(s.First == o.next) // so none follows one without a batch: their numbers are not the same
		for b, end := range seglog.Scan(data, s.First) {
			o.next = b.First + len(b.Txns)
			s.Size = end
			if !yield(b) {
				return
			}
		}
		o.torn = len(data) - s.Size
	}
}
