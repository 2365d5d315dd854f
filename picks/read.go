// Package picks: how a pick is read, and which rule it breaks.
package picks

import (
	"upkeep/api"
	"upkeep/document"
)

// Reading is what came of reading a pick: the packages in it, or an error.
type Reading struct {
	Picked []document.Pack
	Errno  api.Errno
}

// Read reads a pick of the packages. That each name comes behind the one ahead of it, in the order of bytes, is all that keeps one from coming twice.
func Read(packs []document.Pack, text string) Reading {
	if len(text) > api.MaxText || len(text)%2 != 0 {
		return Reading{Errno: api.ErrPick}
	}
	var picked []document.Pack
	last := ""
	for at := 0; at+2 <= len(text); at += 2 {
		head := text[at : at+2]
		number := document.Number(packs, head[0], head[1])
		if number >= len(packs) || head <= last {
			return Reading{Errno: api.ErrPick}
		}
		picked = append(picked, packs[number])
		last = head
	}
	return Reading{Picked: picked}
}
