package document

// Fits tells whether the package fits the constraint. What is provided has no version, so it fits a name alone.
func (p Pack) Fits(c Constraint) bool {
	if c.Sign == 0 {
		return p.Name == c.Name || p.provides(c.Name)
	}
	return p.Name == c.Name && versionFits(p.Version, c)
}

func (p Pack) provides(name byte) bool {
	for _, provided := range p.Provides {
		if provided == name {
			return true
		}
	}
	return false
}

func versionFits(version byte, c Constraint) bool {
	switch c.Sign {
	case '=':
		return version == c.Version
	case '<':
		return version <= c.Version
	case '>':
		return version >= c.Version
	}
	return false
}

// Fitting answers the packages that fit the constraint.
func Fitting(packs []Pack, c Constraint) Set {
	fitting := Set(0)
	for i, p := range packs {
		if p.Fits(c) {
			fitting |= One(i)
		}
	}
	return fitting
}
