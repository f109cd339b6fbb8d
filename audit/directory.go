package audit

import (
	"maps"
	"slices"
	"strings"

	"treadle/api"
	"treadle/ckpt"
	"treadle/manifest"
	"treadle/seglog"
)

// directory is files by their names. A file that an opening reads is taken out of it, so that no name is told twice.
type directory map[string][]byte

// directoryOf is the directory of these files, and whether each name stands there once.
func directoryOf(files []api.FileBytes) (directory, bool) {
	d := directory{}
	for _, f := range files {
		d[f.Name] = f.Data
	}
	return d, len(d) == len(files)
}

func (d directory) names() []string { return slices.Sorted(maps.Keys(d)) }

// segments is the segments among the files, rising; nothing of them was read.
func (d directory) segments() []api.Segment {
	var all []api.Segment
	for _, name := range d.names() { // in the order of their numbers, as all have the same count of digits
		if first, is := seglog.First(name); is {
			all = append(all, api.Segment{First: first})
		}
	}
	return all
}

// sorted is the names of the store's own files, and those of the others.
func (d directory) sorted() (own, others []string) {
	for _, name := range d.names() {
		to := &others
		if isOwn(name) {
			to = &own
		}
		*to = append(*to, strings.Clone(name)) // whoever handed the name in may write over it
	}
	return own, others
}

// isOwn tells whether a store gives a file that name.
func isOwn(name string) bool {
	_, isCheckpoint := ckpt.Number(name)
	_, isSegment := seglog.First(name)
	return isCheckpoint || isSegment || name == manifest.Name || name == manifest.New
}
