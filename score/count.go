package score

import (
	"strconv"

	"upkeep/document"
)

// Text writes the numbers for the criteria, in their order. A number is the same whether few or many are asked for.
func Text(criteria []Criterion, names []Name, picked document.Set) string {
	pick := document.Just(picked)
	text := ""
	for i, c := range criteria {
		if i > 0 {
			text += ","
		}
		number := fewest(c.Letter, names, pick)
		text += strconv.Itoa(number)
	}
	return text
}

// fewest answers how many names count, by the letter, in every pick of the span. None has fewer of them.
func fewest(letter byte, names []Name, span document.Span) int {
	count := 0
	for _, n := range names {
		if n.always(letter, span) {
			count++
		}
	}
	return count
}

// most answers how many names count, by the letter, in some pick of the span. None has more of them.
func most(letter byte, names []Name, span document.Span) int {
	count := 0
	for _, n := range names {
		if n.sometimes(letter, span) {
			count++
		}
	}
	return count
}
