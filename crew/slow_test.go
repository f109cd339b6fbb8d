package crew_test

import (
	"maps"
	"slices"

	"treadle/api"
	"treadle/datum"
	"treadle/exec"
	"treadle/proc"
	"treadle/zigzag"
)

// slow is a state, and what becomes of it by the chapter's words, done one behind the other.
type slow struct {
	values map[string]api.Value
	procs  map[string]api.Proc
}

// slowOf is what two stores have.
func slowOf(w world) slow {
	return slow{maps.Collect(w.values.Range("", "")), maps.Collect(w.procs.Range("", ""))}
}

func (s slow) Get(key string) (api.Value, bool) {
	v, has := s.values[key]
	return v, has
}

func (s slow) Next(above string) (string, bool) {
	for _, key := range slices.Sorted(maps.Keys(s.values)) {
		if key > above {
			return key, true
		}
	}
	return "", false
}

// slowEffect is a transaction's effect on a state.
type slowEffect struct {
	api.Effect
	looksAt []string // procedures
	defines []api.Proc
}

// effect is P11.1.
func (s slow) effect(t api.Txn) slowEffect {
	if t.Kind == api.TxnDefine {
		if _, e := proc.Check(t.Proc); e == api.OK {
			return slowEffect{Effect: api.Effect{Outcome: api.Outcome{Status: api.StatusDone}}, defines: []api.Proc{t.Proc}}
		}
	}
	if t.Kind == api.TxnCall && len(t.Args) <= 16 {
		values := 0
		for _, arg := range t.Args {
			if datum.Check(arg) == api.OK {
				values++
			}
		}
		if values == len(t.Args) {
			p, is := s.procs[t.Name]
			if !is {
				return slowEffect{Effect: api.Effect{Outcome: api.Outcome{Status: api.StatusName}}, looksAt: []string{t.Name}}
			}
			return slowEffect{Effect: exec.Run(s, p, t.Args), looksAt: []string{t.Name}}
		}
	}
	return slowEffect{}
}

// lay lays the writes and definitions of an effect.
func (s slow) lay(e slowEffect) {
	for _, w := range e.Writes {
		if w.Value.Kind == api.KindNone {
			delete(s.values, w.Key)
		} else {
			s.values[w.Key] = w.Value
		}
	}
	for _, p := range e.defines {
		s.procs[p.Name] = p
	}
}

// looks tells whether a later one looks at what an earlier one writes.
func looks(later, earlier slowEffect) bool {
	for _, w := range earlier.Writes {
		for _, span := range later.Looks {
			if w.Key >= span.From && (span.To == "" || w.Key <= span.To) {
				return true
			}
		}
	}
	for _, p := range earlier.defines {
		if slices.Contains(later.looksAt, p.Name) {
			return true
		}
	}
	return false
}

// holds tells whether none of some effects looks at what an earlier one of them writes.
func holds(effects []slowEffect) bool {
	for j := range effects {
		for i := range j {
			if looks(effects[j], effects[i]) {
				return false
			}
		}
	}
	return true
}

// run is P11.2 and P11.3; it lays the writes in further stores too, if there are any, as the words have it.
func (s slow) run(txns []api.Txn, also ...world) ([]api.Outcome, []int) {
	var outcomes []api.Outcome
	var rounds []int
	for len(txns) > 0 {
		var effects []slowEffect
		for _, t := range txns {
			effects = append(effects, s.effect(t))
			if !holds(effects) {
				effects = effects[:len(effects)-1]
				break
			}
		}
		for _, e := range effects {
			s.lay(e)
			for _, w := range also {
				layIn(w, e)
			}
			outcomes = append(outcomes, e.Outcome)
		}
		rounds = append(rounds, len(effects))
		txns = txns[len(effects):]
	}
	return outcomes, rounds
}

// layIn lays the writes and definitions of an effect in stores.
func layIn(w world, e slowEffect) {
	for _, x := range e.Writes {
		if x.Value.Kind == api.KindNone {
			w.values.Delete(x.Key)
		} else {
			w.values.Put(x.Key, x.Value)
		}
	}
	for _, p := range e.defines {
		w.procs.Put(p.Name, p)
	}
}

// oneByOne is P11.5: each transaction on the state that the ones ahead of it have left.
func (s slow) oneByOne(txns []api.Txn) []api.Outcome {
	var outcomes []api.Outcome
	for _, t := range txns {
		e := s.effect(t)
		s.lay(e)
		outcomes = append(outcomes, e.Outcome)
	}
	return outcomes
}

// world is the state in two stores.
func (s slow) world() world {
	w := world{zigzag.New[api.Value](), zigzag.New[api.Proc]()}
	for key, v := range s.values {
		w.values.Put(key, v)
	}
	for name, p := range s.procs {
		w.procs.Put(name, p)
	}
	return w
}
