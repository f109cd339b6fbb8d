package crew

import (
	"sync"
	"sync/atomic"

	"treadle/api"
)

// reckoning is workers that reckon effects on a state, which stays as it is meanwhile.
type reckoning struct {
	state   state
	txns    []api.Txn
	ahead   *written      // by those of the round that are ahead of these
	effects []effect      // each transaction has its own place
	next    atomic.Int64  // the first one that nobody has taken
	done    chan struct{} // has room for all of them, so that no worker waits
	late    chan struct{} // closed, as soon as one of them is known to belong to a later round
	once    sync.Once
	workers sync.WaitGroup
}

// reckon is the effects of a beginning of some transactions: of all of them,
// or at least up to one that looks at what those ahead of them have written.
func (s state) reckon(txns []api.Txn, ahead *written, workers int) []effect {
	r := &reckoning{
		state:   s,
		txns:    txns,
		ahead:   ahead,
		effects: make([]effect, len(txns)),
		done:    make(chan struct{}, len(txns)),
		late:    make(chan struct{}),
	}
	for range min(workers, len(txns)) {
		r.workers.Add(1)
		go r.work()
	}
	return r.effects[:r.gather()]
}

// work reckons one transaction after the other, till none is left.
func (r *reckoning) work() {
	defer r.workers.Done()
	for i := r.take(); i < len(r.txns); i = r.take() {
		r.effects[i] = r.state.effect(r.txns[i])
		if r.ahead.meets(r.effects[i]) {
			r.once.Do(func() { close(r.late) })
		}
		r.done <- struct{}{}
	}
}

// take is the place of a transaction that nobody else has; behind the last one, if none is left.
func (r *reckoning) take() int { return int(r.next.Add(1)) - 1 }

// gather waits for the workers, and tells how many transactions they have reckoned.
func (r *reckoning) gather() int {
all:
	for range r.txns {
		select {
		case <-r.done:
		case <-r.late:
			// Nobody looks at those behind it, so nobody need take them.
			break all
		}
	}
	taken := r.next.Swap(int64(len(r.txns)))
	r.workers.Wait()
	// They were taken in their order, so those that were taken are a beginning; each worker has taken one too many, if there were no more.
	return min(int(taken), len(r.txns))
}
