package score

import "upkeep/document"

// Name is what the criteria look at of a name that packages have.
type Name struct {
	All    document.Set // the packages with this name
	Now    document.Set // those of them that are installed now
	Latest document.Set // that of them with the greatest version
}

// Names answers the names that the packages have, in the order of the alphabet.
func Names(packs []document.Pack) []Name {
	now := document.Now(packs)
	var names []Name
	for name := byte('a'); name <= 'z'; name++ {
		named := document.WithName(packs, name)
		if named == 0 {
			continue
		}
		greatest := document.Greatest(packs, named)
		latest := document.NotBelow(packs, named, greatest)
		names = append(names, Name{All: named, Now: named & now, Latest: latest})
	}
	return names
}

// always tells whether the name counts, by the letter, in every pick of the span.
func (n Name) always(letter byte, span document.Span) bool {
	sure := n.All & span.Sure
	possible := n.All & span.Possible
	switch letter {
	case removed:
		return n.Now != 0 && possible == 0
	case added:
		return n.Now == 0 && sure != 0
	case changed:
		return sure&^n.Now != 0 || n.Now&^possible != 0
	case old:
		return sure != 0 && possible&n.Latest == 0
	}
	return false
}

// sometimes tells whether the name counts, by the letter, in some pick of the span.
func (n Name) sometimes(letter byte, span document.Span) bool {
	sure := n.All & span.Sure
	possible := n.All & span.Possible
	switch letter {
	case removed:
		return n.Now != 0 && sure == 0
	case added:
		return n.Now == 0 && possible != 0
	case changed:
		return sure != n.Now || possible != n.Now
	case old:
		return sure&n.Latest == 0 && possible&^n.Latest != 0
	}
	return false
}
