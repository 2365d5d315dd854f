// Package choice: which of a document's valid picks is best by criteria.
package choice

import (
	"upkeep/document"
	"upkeep/picks"
	"upkeep/score"
)

// Answer is what came of a search: whether some pick is valid and, if so, a best one.
type Answer struct {
	Found  bool
	Picked document.Set
	cost   int
}

// task is what a search goes by: it stays the same in every step.
type task struct {
	rules    picks.Rules
	names    []score.Name
	criteria []score.Criterion
}

// Best finds a valid pick of the document such that no valid pick is better by the criteria.
func Best(d document.Document, criteria []score.Criterion) Answer {
	rules := picks.RulesOf(d)
	names := score.Names(d.Packs)
	telling := score.Telling(criteria)
	t := task{rules: rules, names: names, criteria: telling}
	all := document.All(d.Packs)
	return t.search(document.Span{Possible: all}, Answer{})
}

// search answers a best of the valid picks in the span if it is better than the best one so far, and else that one. A span is left as a whole if a rule holds for no pick in it, or if none in it can be better. Each step decides on one package, so that there are at most as many steps, one inside the other, as packages.
func (t task) search(span document.Span, best Answer) Answer {
	if picks.FirstBroken(t.rules, span) != 0 {
		return best
	}
	cost := score.Cost(t.criteria, t.names, span)
	if best.Found && cost >= best.cost {
		return best
	}
	number := t.next(span)
	if number >= len(t.rules.Packs) {
		return Answer{Found: true, Picked: span.Sure, cost: cost}
	}
	one := document.One(number)
	foes := t.rules.Packs[number].Foes
	with := document.Span{Sure: span.Sure | one, Possible: span.Possible &^ foes}
	without := document.Span{Sure: span.Sure, Possible: span.Possible &^ one}
	best = t.search(with, best)
	return t.search(without, best)
}
