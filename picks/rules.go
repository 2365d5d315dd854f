package picks

import "upkeep/document"

// FirstBroken answers the number of the first of the rules 1 to 6 that does not hold for the packages that are picked, or 0 if all hold.
func FirstBroken(d document.Document, picked []document.Pack) int {
	if !needsMet(picked) {
		return 1
	}
	if !noConflict(picked) {
		return 2
	}
	if !marksKept(d.Packs, picked) {
		return 3
	}
	if !installed(d.Install, picked) {
		return 4
	}
	if !removed(d.Remove, picked) {
		return 5
	}
	if !upgraded(d, picked) {
		return 6
	}
	return 0
}

// needsMet is rule 1.
func needsMet(picked []document.Pack) bool {
	for _, p := range picked {
		for _, need := range p.Needs {
			if !met(need, picked) {
				return false
			}
		}
	}
	return true
}

func met(need document.Need, picked []document.Pack) bool {
	for _, c := range need.Choices {
		if document.Fitted(picked, c) {
			return true
		}
	}
	return false
}

// noConflict is rule 2.
func noConflict(picked []document.Pack) bool {
	for i, p := range picked {
		for _, c := range p.Conflicts {
			// What stands on both sides of the package is all but itself, which may fit its own conflicts.
			before := document.Fitted(picked[:i], c)
			behind := document.Fitted(picked[i+1:], c)
			if before || behind {
				return false
			}
		}
	}
	return true
}

// marksKept is rule 3.
func marksKept(packs []document.Pack, picked []document.Pack) bool {
	for _, p := range packs {
		if p.Mark == document.MarkVersionStays && !document.Has(picked, p.Name, p.Version) {
			return false
		}
		if p.Mark == document.MarkNameStays && !document.HasName(picked, p.Name) {
			return false
		}
	}
	return true
}

// installed is rule 4.
func installed(install []document.Constraint, picked []document.Pack) bool {
	for _, c := range install {
		if !document.Fitted(picked, c) {
			return false
		}
	}
	return true
}

// removed is rule 5.
func removed(remove []document.Constraint, picked []document.Pack) bool {
	for _, c := range remove {
		if document.Fitted(picked, c) {
			return false
		}
	}
	return true
}

// upgraded is rule 6.
func upgraded(d document.Document, picked []document.Pack) bool {
	now := document.Now(d.Packs)
	for _, c := range d.Upgrade {
		named := document.WithName(picked, c.Name)
		if len(named) != 1 {
			return false
		}
		one := named[0]
		least := document.Greatest(now, c.Name)
		if one.Version < least || !one.Fits(c) {
			return false
		}
	}
	return true
}
