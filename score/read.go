// Package score: how criteria are read, and how a pick does by them.
package score

import "upkeep/api"

// The signs and the letters of criteria.
const (
	few  = '-'
	many = '+'

	removed = 'r'
	added   = 'n'
	changed = 'c'
	old     = 'u'
)

// Criterion says of what there are to be few, or many.
type Criterion struct {
	Many   bool
	Letter byte
}

// Reading is what came of reading criteria: these, or an error.
type Reading struct {
	Criteria []Criterion
	Errno    api.Errno
}

// Read reads criteria. How many there are is looked at first, so that a long text is not gone through.
func Read(text string) Reading {
	if len(text) == 0 || len(text) > 2*api.MaxCriteria || len(text)%2 != 0 {
		return Reading{Errno: api.ErrCriteria}
	}
	var criteria []Criterion
	for at := 0; at+2 <= len(text); at += 2 {
		sign := text[at]
		letter := text[at+1]
		if !isSign(sign) || !isLetter(letter) {
			return Reading{Errno: api.ErrCriteria}
		}
		criteria = append(criteria, Criterion{Many: sign == many, Letter: letter})
	}
	return Reading{Criteria: criteria}
}

func isSign(b byte) bool {
	return b == few || b == many
}

func isLetter(b byte) bool {
	return b == removed || b == added || b == changed || b == old
}
