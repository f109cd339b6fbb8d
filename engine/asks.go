package engine

import "treadle/api"

// refused is the first error among the answers to some questions; those behind it are not asked, as they may lean on it.
func refused(asks ...func() api.Errno) api.Errno {
	for _, ask := range asks {
		if err := ask(); err != api.OK {
			return err
		}
	}
	return api.OK
}

func (e *Engine) closed() api.Errno { return when(e == nil || e.Log == nil, api.ErrClosed) }

func (e *Engine) broken() api.Errno { return when(e.Broken(), api.ErrBroken) }

func (e *Engine) busy() api.Errno { return when(e.job != nil, api.ErrBusy) }

func (e *Engine) idle() api.Errno { return when(e.job == nil, api.ErrIdle) }

func (e *Engine) uncounted() api.Errno { return when(!e.has, api.ErrIdle) }

// when is an error, if something holds.
func when(holds bool, err api.Errno) api.Errno {
	if holds {
		return err
	}
	return api.OK
}
