package disk

import (
	"maps"
	"slices"
	"strings"

	"treadle/api"
)

// isName tells whether a text is a name.
func isName(s string) bool {
	if len(s) < 1 || len(s) > api.MaxFileName {
		return false
	}
	for i := range len(s) {
		if s[i] < 33 || s[i] > 126 {
			return false
		}
	}
	return true
}

// naming is a change of the names: a Create has no from, a Remove no to.
type naming struct {
	from, to string
	file     int // the one that to is from then on
}

// do works in the map that it is handed.
func (c naming) do(names map[string]int) {
	delete(names, c.from)
	if c.to != "" {
		names[c.to] = c.file
	}
}

// pend does a change of the names that a crash may undo.
func (d *Disk) pend(c naming) {
	// A name may be a piece of a long text, which is not to be kept with it.
	c.from, c.to = strings.Clone(c.from), strings.Clone(c.to)
	d.namings = append(d.namings, c)
	c.do(d.names)
}

// add makes a file of safe bytes; it has no name so far.
func (d *Disk) add(data []byte) int {
	d.made++
	d.living[d.made] = newFile(data)
	return d.made
}

// settle makes these the names, and the safe ones; a file that has none of them is let go.
func (d *Disk) settle(names map[string]int) {
	d.names, d.safe = names, maps.Clone(names)
	d.namings = nil
	d.living = d.reached(names)
}

// reached is the files that have these names.
func (d *Disk) reached(names map[string]int) map[int]*file {
	to := map[int]*file{}
	for _, n := range names {
		to[n] = d.living[n]
	}
	return to
}

// sorted is the names, the least first, in memory of their own: they are answered.
func sorted(names map[string]int) []string {
	all := slices.Sorted(maps.Keys(names))
	for i, name := range all {
		all[i] = strings.Clone(name)
	}
	return all
}

// told is the files that have these names, with the bytes that are asked for by their numbers.
func told(names map[string]int, data func(int) []byte) []api.FileBytes {
	var to []api.FileBytes
	for _, name := range sorted(names) {
		to = append(to, api.FileBytes{Name: name, Data: data(names[name])})
	}
	return to
}
