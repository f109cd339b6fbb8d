package script_test

import (
	"fmt"
	"math/rand"
	"strconv"
	"strings"

	"treadle/api"
	"treadle/asm"
)

// lines is the definition of a procedure by its lines, but the last.
func lines(all ...string) api.Txn {
	p, line, e := asm.Parse(strings.Join(append(all, "end"), "\n"))
	if e != api.OK {
		panic(fmt.Sprint(all, line, e))
	}
	return define(p)
}

// history is the transaction of each number. What comes of them, and what they tell, hangs on their order; some give up.
func history(n int) api.Txn {
	key := text("key " + strconv.Itoa(n%4))
	switch {
	case n == 1:
		return lines("proc fold 2", "arg r0 0", "arg r1 1", "get r2 r0", "skip 1 r2 != r9", "set r2 0", "sub r2 r1 r2", "put r0 r2", "tell r2")
	case n == 2:
		return lines("proc drop 1", "arg r0 0", "get r1 r0", "need r1 != r9", "del r0", "tell r1")
	case n%7 == 0:
		return call("drop", key)
	case n%5 == 2:
		return lines("proc made"+strconv.Itoa(n%3)+" 0", "set r0 \"made\"", "set r1 \"by "+strconv.Itoa(n)+"\"", "put r0 r1", "tell r1")
	case n%5 == 3:
		return call("made" + strconv.Itoa(n%3))
	case n%5 == 4:
		return call("fold", key, text("no number"))
	}
	return call("fold", key, num(int64(n%1000*(n%1000))))
}

// play makes up steps of a world, most of which are sound when they come.
type play struct {
	r     *rand.Rand
	next  int  // of the history
	calm  bool // no plan and no crash
	hands bool // files are handed in
}

func newPlay(seed int64) *play {
	return &play{r: rand.New(rand.NewSource(seed)), next: 1, hands: true}
}

func (p *play) rules() api.Step {
	return open(40+p.r.Intn(300), 1+p.r.Intn(4), p.r.Intn(7)-1)
}

// txns is the next transactions of the history, sometimes of an earlier part of it.
func (p *play) txns() []api.Txn {
	if p.r.Intn(20) == 0 {
		p.next = 1
	}
	var out []api.Txn
	for range 1 + p.r.Intn(4) {
		out = append(out, history(p.next))
		p.next++
	}
	return out
}

func (p *play) faults() api.Step {
	s := plan(nil, nil)
	for range p.r.Intn(3) {
		s.Plan.Strokes = append(s.Plan.Strokes, api.Fault{At: 1 + p.r.Intn(9), Kind: 1 + p.r.Intn(3)})
	}
	if p.r.Intn(3) == 0 {
		s.Plan.Reads = append(s.Plan.Reads, api.Fault{At: 1 + p.r.Intn(4), Kind: 1 + p.r.Intn(3)})
	}
	return s
}

func (p *play) picks() api.Step {
	s := crash(p.r.Intn(12) - 1)
	for range p.r.Intn(20) {
		pick := api.Pick{Done: p.r.Intn(6) - 1}
		for range p.r.Intn(4) {
			pick.Lost = append(pick.Lost, p.r.Intn(20)-2)
		}
		s.Picks.Files = append(s.Picks.Files, pick)
	}
	return s
}

func (p *play) handed() api.Step {
	names := []string{"x", "other", "a b", "", "log-000000000001", "log-000000000003", "manifest", "manifest.new", "ckpt-000000000001"}
	return hand(names[p.r.Intn(len(names))], []string{"", "y", long(40), long(1000), "\x00\x00\x00\x00"}[p.r.Intn(5)])
}

// step is some step.
func (p *play) step() api.Step {
	r := p.r
	switch k := r.Intn(100); {
	case k < 25:
		return submit(p.txns()...)
	case k < 27:
		return []api.Step{submit(), submit(api.Txn{Kind: r.Intn(5) - 1}), submit(call("9")), submit(call("gone", num(1)))}[r.Intn(4)]
	case k < 37:
		return flush
	case k < 42:
		return read("key " + strconv.Itoa(r.Intn(5)))
	case k < 46:
		return span([]string{"", "key 1", "made"}[r.Intn(3)], []string{"", "key 2", "z"}[r.Intn(3)], r.Intn(9)-1)
	case k < 53:
		return start
	case k < 66:
		return step(r.Intn(8) - 1)
	case k < 70:
		return trim
	case k < 73:
		return closing
	case k < 77:
		return sight
	case k < 79:
		return files
	case k < 80:
		return open(r.Intn(3)-1, r.Intn(3)-1, 1)
	case k < 89 || p.calm:
		return p.rules()
	case k < 94:
		return p.faults()
	case k < 99 || !p.hands || r.Intn(3) > 0:
		return p.picks()
	}
	return p.handed()
}

// steps is so many of them, an opening first.
func (p *play) steps(n int) []api.Step {
	out := []api.Step{p.rules()}
	for range n {
		out = append(out, p.step())
	}
	return out
}
