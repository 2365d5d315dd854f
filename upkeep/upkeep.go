// Package upkeep: which packages to install, given what they need and what somebody asks for: see DOC.md.
package upkeep

import (
	"upkeep/api"
	"upkeep/choice"
	"upkeep/document"
	"upkeep/picks"
	"upkeep/score"
	"upkeep/solver"
)

// Check tells whether a text is a document (P3).
func Check(doc string) (api.Errno, int) {
	reading := document.Read(doc)
	return reading.Errno, reading.Place
}

// Show writes a document in its usual form (P4).
func Show(doc string) (string, api.Errno) {
	reading := document.Read(doc)
	if reading.Errno != api.OK {
		return "", reading.Errno
	}
	return document.Show(reading.Doc), api.OK
}

// Valid tells which rule a pick breaks (P5).
func Valid(doc string, pick string) (int, api.Errno) {
	reading := document.Read(doc)
	if reading.Errno != api.OK {
		return 0, reading.Errno
	}
	chosen := picks.Read(reading.Doc.Packs, pick)
	if chosen.Errno != api.OK {
		return 0, chosen.Errno
	}
	rules := picks.RulesOf(reading.Doc)
	alone := document.Just(chosen.Picked)
	return picks.FirstBroken(rules, alone), api.OK
}

// Score tells how good a pick is (P6).
func Score(doc string, criteria string, pick string) (string, api.Errno) {
	reading := document.Read(doc)
	if reading.Errno != api.OK {
		return "", reading.Errno
	}
	wishes := score.Read(criteria)
	if wishes.Errno != api.OK {
		return "", wishes.Errno
	}
	chosen := picks.Read(reading.Doc.Packs, pick)
	if chosen.Errno != api.OK {
		return "", chosen.Errno
	}
	names := score.Names(reading.Doc.Packs)
	return score.Text(wishes.Criteria, names, chosen.Picked), api.OK
}

// Solve decides clauses (P7).
func Solve(clauses string, assume string) (string, bool, api.Errno) {
	if len(clauses) > api.MaxText || len(assume) > api.MaxText {
		return "", false, api.ErrLong
	}
	reading := solver.Read(clauses)
	if reading.Errno != api.OK {
		return "", false, reading.Errno
	}
	assumption := solver.ReadAssumption(assume)
	if assumption.Errno != api.OK {
		return "", false, assumption.Errno
	}
	answer := solver.Decide(reading.Clauses, assumption.Literals)
	if !answer.Can {
		return answer.Literals.ByBytes(), false, api.OK
	}
	return answer.Literals.ByVariables(), true, api.OK
}

// Choose finds the best pick (P8).
func Choose(doc string, criteria string) (string, api.Errno) {
	reading := document.Read(doc)
	if reading.Errno != api.OK {
		return "", reading.Errno
	}
	wishes := score.Read(criteria)
	if wishes.Errno != api.OK {
		return "", wishes.Errno
	}
	best := choice.Best(reading.Doc, wishes.Criteria)
	if !best.Found {
		return "", api.ErrNone
	}
	return picks.Text(reading.Doc.Packs, best.Picked), api.OK
}
