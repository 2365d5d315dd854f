// Package picks: how a pick is read and written, and which rule it breaks.
package picks

import (
	"upkeep/api"
	"upkeep/document"
)

// Reading is what came of reading a pick: the packages in it, or an error.
type Reading struct {
	Picked document.Set
	Errno  api.Errno
}

// Read reads a pick of the packages. That each name comes behind the one ahead of it, in the order of bytes, is all that keeps one from coming twice.
func Read(packs []document.Pack, text string) Reading {
	if len(text) > api.MaxText || len(text)%2 != 0 {
		return Reading{Errno: api.ErrPick}
	}
	picked := document.Set(0)
	last := ""
	for at := 0; at+2 <= len(text); at += 2 {
		head := text[at : at+2]
		number := document.Number(packs, head[0], head[1])
		if number >= len(packs) || head <= last {
			return Reading{Errno: api.ErrPick}
		}
		picked |= document.One(number)
		last = head
	}
	return Reading{Picked: picked}
}

// Text writes a pick of the packages: their names in the order of bytes.
func Text(packs []document.Pack, picked document.Set) string {
	var text []byte
	for name := byte('a'); name <= 'z'; name++ {
		for version := byte('1'); version <= '9'; version++ {
			number := document.Number(packs, name, version)
			if picked.Has(number) {
				text = append(text, name, version)
			}
		}
	}
	return string(text)
}
