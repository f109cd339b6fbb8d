package script

import "treadle/api"

// form is what there is to a kind of steps: its first word, the words behind
// it, and what is done.
type form struct {
	word  string
	parts []part
	do    func(w *World, s api.Step) api.Answer
}

// part is what stands behind a step's first word: how it is taken into the
// step, and how it is shown.
type part struct {
	take func(r *reading, s *api.Step)
	show func(p *printing, s *api.Step)
}

// forms is the kinds of steps, each at the place of its number; at the place 0 there is none.
func forms() []form {
	return []form{
		api.StepOpen:   {"open", []part{number(segmentOf), number(pageOf), number(workersOf)}, (*World).open},
		api.StepSubmit: {"submit", []part{{takeTxns, showTxns}}, (*World).submit},
		api.StepFlush:  {"flush", nil, (*World).flush},
		api.StepRead:   {"read", []part{quoted(keyOf)}, (*World).read},
		api.StepRange:  {"range", []part{quoted(keyOf), quoted(toOf), number(countOf)}, (*World).span},
		api.StepStart:  {"start", nil, (*World).start},
		api.StepStep:   {"step", []part{number(countOf)}, (*World).step},
		api.StepTrim:   {"trim", nil, (*World).trim},
		api.StepClose:  {"close", nil, (*World).close},
		api.StepSight:  {"sight", nil, (*World).sight},
		api.StepPlan:   {"plan", []part{{takeFaults, showFaults}}, (*World).plan},
		api.StepCrash:  {"crash", []part{number(namesOf), {takePicks, showPicks}}, (*World).crash},
		api.StepHand:   {"hand", []part{quoted(nameOf), {takeData, showData}}, (*World).hand},
		api.StepFiles:  {"files", nil, (*World).files},
	}
}

// isKind tells whether a number is that of a kind of steps.
func isKind(table []form, kind int) bool { return kind > 0 && kind < len(table) }

// kindOf is the kind whose first word this is; no word is empty, so that 0, which is none, stands for no kind.
func kindOf(table []form, word string) int {
	for kind, f := range table {
		if f.word == word {
			return kind
		}
	}
	return 0
}

// number is a part that is an INT.
func number(of func(s *api.Step) *int) part {
	return part{
		take: func(r *reading, s *api.Step) { *of(s) = r.number() },
		show: func(p *printing, s *api.Step) { p.number(*of(s)) },
	}
}

// quoted is a part that is a TEXT.
func quoted(of func(s *api.Step) *string) part {
	return part{
		take: func(r *reading, s *api.Step) { *of(s) = r.quoted() },
		show: func(p *printing, s *api.Step) { p.quoted(*of(s)) },
	}
}

func segmentOf(s *api.Step) *int { return &s.Rules.Segment }
func pageOf(s *api.Step) *int    { return &s.Rules.Page }
func workersOf(s *api.Step) *int { return &s.Rules.Workers }
func countOf(s *api.Step) *int   { return &s.N }
func namesOf(s *api.Step) *int   { return &s.Picks.Names }

func keyOf(s *api.Step) *string  { return &s.Key }
func toOf(s *api.Step) *string   { return &s.To }
func nameOf(s *api.Step) *string { return &s.Name }

func takeData(r *reading, s *api.Step)  { s.Data = []byte(r.quoted()) }
func showData(p *printing, s *api.Step) { p.quoted(string(s.Data)) }
