package exec

import (
	"maps"
	"slices"
	"strings"

	"treadle/api"
)

// machine is a call that is going on.
type machine struct {
	view   View
	args   []api.Value
	at     int // the place of the instruction that is being done
	regs   [api.MaxRegs]api.Value
	told   []api.Value
	writes map[string]api.Value // the last one of each key; nothing: it is deleted
	looks  []api.Span
}

// givenUp is what an instruction that cannot be done panics with.
type givenUp struct{ status int }

func giveUp(status int) { panic(givenUp{status}) }

// run does the instructions from the first one on.
func (m *machine) run(code []api.Instr) (e api.Effect) {
	defer func() {
		switch x := recover().(type) {
		case nil:
		case givenUp:
			e = api.Effect{Outcome: api.Outcome{Status: x.status, At: m.at}, Looks: m.looks}
		default:
			// A View is somebody else's: what it panics with ends the call, and goes no further.
			e = api.Effect{}
		}
	}()
	table := operations()
instructions:
	for ; m.at < len(code); m.at++ {
		switch in := code[m.at]; in.Op {
		case api.OpStop:
			break instructions
		default:
			table[in.Op](m, in)
		}
	}
	return m.done()
}

// done is what a call does that has come to its end.
func (m *machine) done() api.Effect {
	e := api.Effect{Outcome: api.Outcome{Status: api.StatusDone, Told: m.told}, Looks: m.looks}
	for _, key := range slices.Sorted(maps.Keys(m.writes)) {
		e.Writes = append(e.Writes, api.Entry{Key: strings.Clone(key), Value: copied(m.writes[key])})
	}
	return e
}

// copied is a value with a text of its own: what is answered shares no memory with what was handed in.
func copied(v api.Value) api.Value {
	v.Text = strings.Clone(v.Text)
	return v
}
