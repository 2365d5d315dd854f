// Package score: how criteria are read, and how a pick does by them.
package score

import "upkeep/api"

// Reading is what came of reading criteria: their letters, or an error. A number is the same whether few or many are wished for, so the signs are not kept.
type Reading struct {
	Letters []byte
	Errno   api.Errno
}

// Read reads criteria. How many there are is looked at first, so that a long text is not gone through.
func Read(text string) Reading {
	if len(text) == 0 || len(text) > 2*api.MaxCriteria || len(text)%2 != 0 {
		return Reading{Errno: api.ErrCriteria}
	}
	var letters []byte
	for at := 0; at+2 <= len(text); at += 2 {
		if !isSign(text[at]) || !isLetter(text[at+1]) {
			return Reading{Errno: api.ErrCriteria}
		}
		letters = append(letters, text[at+1])
	}
	return Reading{Letters: letters}
}

func isSign(b byte) bool {
	return b == '-' || b == '+'
}

func isLetter(b byte) bool {
	return b == removed || b == added || b == changed || b == old
}
