package script

import (
	"treadle/api"
	"treadle/disk"
	"treadle/engine"
)

// World is a disk and what is open on it.
type World struct {
	ground *disk.Disk     // none yet, of a zero one: then it is a zero Disk
	engine *engine.Engine // none, if none was opened, or a crash or a hand came behind it
}

// New is a world with an empty disk.
func New(room, files int) (*World, api.Errno) {
	d, err := disk.New(room, files)
	if err != api.OK {
		return nil, err
	}
	return &World{ground: d}, api.OK
}

// Do does a step.
func (w *World) Do(s api.Step) api.Answer {
	if w == nil {
		return api.Answer{Err: api.ErrArg}
	}
	table := forms()
	if !isKind(table, s.Kind) {
		return api.Answer{Err: api.ErrStep}
	}
	if w.ground == nil {
		w.ground = &disk.Disk{}
	}
	return table[s.Kind].do(w, s)
}

func (w *World) open(s api.Step) api.Answer {
	if w.engine != nil && !w.engine.Sight().Closed {
		return api.Answer{Err: api.ErrOrder}
	}
	e, opened, err := engine.Open(w.ground, s.Rules)
	if err != api.OK {
		return api.Answer{Err: err}
	}
	w.engine = e
	return api.Answer{Opened: opened}
}

// The calls of an engine are asked of none, too: it answers that it is closed.

func (w *World) submit(s api.Step) api.Answer {
	first, outcomes, err := w.engine.Submit(s.Txns)
	return api.Answer{Err: err, N: first, Outcomes: outcomes}
}

func (w *World) flush(api.Step) api.Answer {
	last, err := w.engine.Flush()
	return api.Answer{Err: err, N: last}
}

func (w *World) read(s api.Step) api.Answer {
	v, err := w.engine.Read(s.Key)
	return api.Answer{Err: err, Value: v}
}

func (w *World) span(s api.Step) api.Answer {
	entries, err := w.engine.Range(s.Key, s.To, s.N)
	return api.Answer{Err: err, Entries: entries}
}

func (w *World) start(api.Step) api.Answer { return api.Answer{Err: w.engine.Start()} }

func (w *World) step(s api.Step) api.Answer {
	done, err := w.engine.Step(s.N)
	return api.Answer{Err: err, Done: done}
}

func (w *World) trim(api.Step) api.Answer { return api.Answer{Err: w.engine.Trim()} }

func (w *World) close(api.Step) api.Answer { return api.Answer{Err: w.engine.Close()} }

func (w *World) sight(api.Step) api.Answer { return api.Answer{Sight: w.engine.Sight()} }

func (w *World) plan(s api.Step) api.Answer {
	w.ground.Plan(s.Plan)
	return api.Answer{}
}

func (w *World) crash(s api.Step) api.Answer {
	w.engine = nil
	return api.Answer{Files: w.ground.Crash(s.Picks)}
}

func (w *World) hand(s api.Step) api.Answer {
	w.engine = nil
	return api.Answer{Err: w.ground.Hand(s.Name, s.Data)}
}

func (w *World) files(api.Step) api.Answer { return api.Answer{Files: w.ground.Files()} }
