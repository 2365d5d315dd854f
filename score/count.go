package score

import (
	"strconv"

	"upkeep/document"
)

// The letters of the criteria.
const (
	removed = 'r'
	added   = 'n'
	changed = 'c'
	old     = 'u'
)

// Text writes the numbers for the letters, in their order, for those of the packages that are picked.
func Text(letters []byte, packs []document.Pack, picked []document.Pack) string {
	text := ""
	for i, letter := range letters {
		if i > 0 {
			text += ","
		}
		number := count(letter, packs, picked)
		text += strconv.Itoa(number)
	}
	return text
}

// count answers of how many names it is true what the letter says.
func count(letter byte, packs []document.Pack, picked []document.Pack) int {
	now := document.Now(packs)
	names := 0
	for name := byte('a'); name <= 'z'; name++ {
		if counts(letter, name, packs, now, picked) {
			names++
		}
	}
	return names
}

func counts(letter byte, name byte, packs []document.Pack, now []document.Pack, picked []document.Pack) bool {
	before := document.HasName(now, name)
	after := document.HasName(picked, name)
	switch letter {
	case removed:
		return before && !after
	case added:
		return after && !before
	case changed:
		return !sameVersions(now, picked, name)
	case old:
		latest := document.Greatest(packs, name)
		return after && !document.Has(picked, name, latest)
	}
	return false
}

func sameVersions(now []document.Pack, picked []document.Pack, name byte) bool {
	for version := byte('1'); version <= '9'; version++ {
		before := document.Has(now, name, version)
		after := document.Has(picked, name, version)
		if before != after {
			return false
		}
	}
	return true
}
