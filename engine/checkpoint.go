package engine

import (
	"treadle/api"
	"treadle/ckpt"
)

// Start begins a checkpoint.
func (e *Engine) Start() api.Errno {
	if err := refused(e.closed, e.broken, e.busy); err != api.OK {
		return err
	}
	// A checkpoint may not say what the log does not: so what it will say is made durable first.
	mark, err := e.Flush()
	if err != api.OK {
		return err
	}
	if mark == e.manifest.Mark {
		return api.ErrIdle
	}
	job, err := ckpt.Begin(e.disk, e.values, e.procs, e.manifest, e.has, mark, e.rules.Page)
	if err != api.OK {
		return err
	}
	e.job, e.mark = job, mark
	return api.OK
}

// Step goes on with it; it tells whether it counts now.
func (e *Engine) Step(n int) (bool, api.Errno) {
	if err := refused(e.closed, e.broken, e.idle); err != api.OK {
		return false, err
	}
	m, told, err := e.job.Step(n)
	switch {
	case n < 1: // what is refused changes nothing: it goes on
		return false, err
	case err == api.OK && !told: // entries are left
		return false, api.OK
	case err == api.OK:
		e.manifest, e.has, e.base = m, true, m.Mark
	case told: // the names say so, but a crash may take it back
		e.manifest, e.has = m, true
	}
	e.drop()
	return err == api.OK, err
}

// Trim removes what is not needed any more.
func (e *Engine) Trim() api.Errno {
	if err := refused(e.closed, e.broken, e.busy, e.uncounted); err != api.OK {
		return err
	}
	if err := ckpt.Collect(e.disk, e.manifest, e.has); err != api.OK {
		return err
	}
	// The names are safe now, so that no crash takes the manifest back any more, however it was installed.
	e.base = e.manifest.Mark
	return e.Log.Trim(e.base)
}

// drop lets the checkpoint go that is going on, if there is one, or that has ended.
func (e *Engine) drop() {
	e.job.Drop()
	e.job, e.mark = nil, 0
}
