package document

// Number answers the number of the package with the name and the version, or how many there are if none has them.
func Number(packs []Pack, name byte, version byte) int {
	for i, p := range packs {
		if p.Name == name && p.Version == version {
			return i
		}
	}
	return len(packs)
}

// Now answers the packages that are installed now.
func Now(packs []Pack) Set {
	now := Set(0)
	for i, p := range packs {
		if p.Mark != MarkNone {
			now |= One(i)
		}
	}
	return now
}

// WithName answers the packages that have the name. What is only provided does not count.
func WithName(packs []Pack, name byte) Set {
	named := Set(0)
	for i, p := range packs {
		if p.Name == name {
			named |= One(i)
		}
	}
	return named
}

// Greatest answers the greatest version of the packages in the set, or 0, which is below every version, if there are none.
func Greatest(packs []Pack, among Set) byte {
	greatest := byte(0)
	for i, p := range packs {
		if among.Has(i) && p.Version > greatest {
			greatest = p.Version
		}
	}
	return greatest
}

// NotBelow answers the packages in the set whose version is this one or a greater one.
func NotBelow(packs []Pack, among Set, version byte) Set {
	found := Set(0)
	for i, p := range packs {
		if among.Has(i) && p.Version >= version {
			found |= One(i)
		}
	}
	return found
}
