package exec

import (
	"treadle/api"
	"treadle/datum"
)

// operations is what each operation does, by its number; OpStop is the loop's own.
func operations() []func(*machine, api.Instr) {
	return []func(*machine, api.Instr){
		api.OpSet:   (*machine).set,
		api.OpArg:   (*machine).arg,
		api.OpGet:   (*machine).get,
		api.OpPut:   (*machine).put,
		api.OpDel:   (*machine).del,
		api.OpAdd:   (*machine).add,
		api.OpSub:   (*machine).sub,
		api.OpMul:   (*machine).mul,
		api.OpJoin:  (*machine).join,
		api.OpNeed:  (*machine).need,
		api.OpSkip:  (*machine).skip,
		api.OpSum:   (*machine).sum,
		api.OpCount: (*machine).count,
		api.OpNext:  (*machine).next,
		api.OpTell:  (*machine).tell,
	}
}

func (m *machine) set(in api.Instr) { m.regs[in.A] = in.Value }

func (m *machine) arg(in api.Instr) { m.regs[in.A] = m.args[in.N] }

func (m *machine) get(in api.Instr) {
	key := m.key(in.B)
	if _, own := m.writes[key]; !own {
		m.look(key, key)
	}
	m.regs[in.A] = m.seen(key)
}

func (m *machine) put(in api.Instr) { m.writes[m.key(in.A)] = m.regs[in.B] }

func (m *machine) del(in api.Instr) { m.writes[m.key(in.A)] = api.Value{} }

func (m *machine) add(in api.Instr) { m.reckon(in, datum.Add) }

func (m *machine) sub(in api.Instr) { m.reckon(in, datum.Sub) }

func (m *machine) mul(in api.Instr) { m.reckon(in, datum.Mul) }

func (m *machine) join(in api.Instr) { m.reckon(in, datum.Join) }

func (m *machine) need(in api.Instr) {
	if !m.holds(in) {
		giveUp(api.StatusNeed)
	}
}

func (m *machine) skip(in api.Instr) {
	if m.holds(in) {
		m.at += in.A
	}
}

func (m *machine) sum(in api.Instr) {
	total := api.Value{Kind: api.KindInt}
	m.through(in, func(key string) (e api.Errno) {
		total, e = datum.Add(total, m.seen(key))
		return e
	})
	m.regs[in.A] = total
}

func (m *machine) count(in api.Instr) {
	total := api.Value{Kind: api.KindInt}
	m.through(in, func(string) api.Errno {
		total.Int++
		return api.OK
	})
	m.regs[in.A] = total
}

func (m *machine) next(in api.Instr) {
	above, from := m.bound(in.B), ""
	if above != "" {
		from = above + "\x00"
	}
	key := m.above(above, "")
	m.look(from, key)
	m.regs[in.A] = api.Value{}
	if key != "" {
		m.regs[in.A] = api.Value{Kind: api.KindText, Text: key}
	}
}

func (m *machine) tell(in api.Instr) {
	if len(m.told) == api.MaxTold {
		giveUp(api.StatusLong)
	}
	m.told = append(m.told, copied(m.regs[in.A]))
}

// reckon lays in A what comes of B and C.
func (m *machine) reckon(in api.Instr, by func(a, b api.Value) (api.Value, api.Errno)) {
	v, e := by(m.regs[in.B], m.regs[in.C])
	insist(e)
	m.regs[in.A] = v
}

func (m *machine) holds(in api.Instr) bool {
	return datum.Holds(in.N, m.regs[in.B], m.regs[in.C])
}

// key is the key in a register.
func (m *machine) key(r int) string {
	key, e := datum.Key(m.regs[r])
	insist(e)
	return key
}

// bound is the key in a register that may have nothing; empty then, which no key is.
func (m *machine) bound(r int) string {
	if m.regs[r].Kind == api.KindNone {
		return ""
	}
	return m.key(r)
}

// insist gives up at an error of chapter 5.
func insist(e api.Errno) {
	switch e {
	case api.OK:
	case api.ErrKind:
		giveUp(api.StatusKind)
	case api.ErrRange:
		giveUp(api.StatusRange)
	case api.ErrLong:
		giveUp(api.StatusLong)
	case api.ErrName:
		giveUp(api.StatusKey)
	}
}
