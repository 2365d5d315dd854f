package document

// Number answers the number of the package with the name and the version, or how many there are if none has them.
func Number(packs []Pack, name byte, version byte) int {
	for i, p := range packs {
		if p.Name == name && p.Version == version {
			return i
		}
	}
	return len(packs)
}

// Has tells whether a package with the name and the version is there.
func Has(packs []Pack, name byte, version byte) bool {
	return Number(packs, name, version) < len(packs)
}

// HasName tells whether some package with the name is there. What is only provided does not count.
func HasName(packs []Pack, name byte) bool {
	for _, p := range packs {
		if p.Name == name {
			return true
		}
	}
	return false
}

// Now answers the packages that are installed now.
func Now(packs []Pack) []Pack {
	var now []Pack
	for _, p := range packs {
		if p.Mark != MarkNone {
			now = append(now, p)
		}
	}
	return now
}

// WithName answers the packages that have the name.
func WithName(packs []Pack, name byte) []Pack {
	var named []Pack
	for _, p := range packs {
		if p.Name == name {
			named = append(named, p)
		}
	}
	return named
}

// Greatest answers the greatest version of those packages that have the name, or 0, which is below every version, if none has it.
func Greatest(packs []Pack, name byte) byte {
	var greatest byte
	for _, p := range packs {
		if p.Name == name && p.Version > greatest {
			greatest = p.Version
		}
	}
	return greatest
}
