package script

import (
	"slices"

	"treadle/api"
)

// The words of a plan and of a crash.
const (
	wordStroke  = "stroke"
	wordReading = "reading"
	wordFile    = "file"
)

// faults is the words of the kinds of faults, each at the place of its number; at the place 0 there is none.
func faults() []string {
	return []string{
		api.FaultOff:  "off",
		api.FaultIO:   "io",
		api.FaultFull: "full",
	}
}

// takeFaults takes what stands behind the word of a plan.
func takeFaults(r *reading, s *api.Step) {
	for r.more() {
		switch r.word() {
		case wordStroke:
			s.Plan.Strokes = append(s.Plan.Strokes, r.fault())
		case wordReading:
			s.Plan.Reads = append(s.Plan.Reads, r.fault())
		default:
			r.refuse()
		}
	}
}

func (r *reading) fault() api.Fault {
	at := r.number()
	kind := slices.Index(faults(), r.word())
	r.insist(kind > 0) // no word is empty, so that the place 0 is never one's
	return api.Fault{At: at, Kind: kind}
}

func showFaults(p *printing, s *api.Step) {
	p.faults(wordStroke, s.Plan.Strokes)
	p.faults(wordReading, s.Plan.Reads)
}

func (p *printing) faults(of string, list []api.Fault) {
	words := faults()
	for _, f := range list {
		if f.Kind < api.FaultOff || f.Kind >= len(words) {
			p.fail(api.ErrStep)
			return
		}
		p.word(of)
		p.number(f.At)
		p.word(words[f.Kind])
	}
}

// takePicks takes the files of a crash.
func takePicks(r *reading, s *api.Step) {
	for r.more() {
		r.insist(r.word() == wordFile)
		pick := api.Pick{Done: r.number()}
		for r.more() && r.words[0] != wordFile {
			pick.Lost = append(pick.Lost, r.number())
		}
		s.Picks.Files = append(s.Picks.Files, pick)
	}
}

func showPicks(p *printing, s *api.Step) {
	for _, pick := range s.Picks.Files {
		p.word(wordFile)
		p.number(pick.Done)
		for _, n := range pick.Lost {
			p.number(n)
		}
	}
}
