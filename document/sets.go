package document

import "upkeep/api"

// Set is some of a document's packages, a bit each, by number. A document has no more packages than there are bits.
type Set uint32

// One is the set of the package with the number alone.
func One(number int) Set {
	if number < 0 || number >= api.MaxPacks {
		return 0
	}
	return Set(1) << uint(number)
}

// All is the set of all packages.
func All(packs []Pack) Set {
	all := Set(0)
	for i := range packs {
		all |= One(i)
	}
	return all
}

// Has tells whether the package with the number is in the set.
func (s Set) Has(number int) bool {
	return s&One(number) != 0
}

// Several tells whether there are two packages or more in the set.
func (s Set) Several() bool {
	return s&(s-1) != 0
}

// Span is all picks that have every package of Sure and none but those of Possible. If both are the same set, it is this pick alone.
type Span struct {
	Sure     Set
	Possible Set
}

// Just is the span of one pick.
func Just(picked Set) Span {
	return Span{Sure: picked, Possible: picked}
}
