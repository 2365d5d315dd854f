package score

import (
	"upkeep/api"
	"upkeep/document"
)

// Telling answers the criteria without those whose letter comes again. Two picks that are the same by the first of them are the same by the others, whatever their signs, so these tell none apart; but to hope for the best of opposite signs would make a span look better than any pick in it.
func Telling(criteria []Criterion) []Criterion {
	var telling []Criterion
	for _, c := range criteria {
		if !hasLetter(telling, c.Letter) {
			telling = append(telling, c)
		}
	}
	return telling
}

func hasLetter(criteria []Criterion, letter byte) bool {
	for _, c := range criteria {
		if c.Letter == letter {
			return true
		}
	}
	return false
}

// base is above every number for a criterion, as there are no more names than packages.
const base = api.MaxPacks + 1

// Cost answers a number for a pick, or for a span one that no pick of it is below. Of two picks the better one has the lesser cost: each criterion is a digit, so that the ones behind it cannot outweigh it.
func Cost(criteria []Criterion, names []Name, span document.Span) int {
	cost := 0
	for _, c := range criteria {
		cost *= base
		if c.Many {
			cost -= most(c.Letter, names, span)
		} else {
			cost += fewest(c.Letter, names, span)
		}
	}
	return cost
}
