package picks

import "upkeep/document"

// Rules are what the rules 1 to 6 ask of a pick, in sets of packages, so that what fits a constraint is found out once and not for each pick.
type Rules struct {
	Packs    []Pack         // 1 and 2, by the packages' numbers
	Stay     []document.Set // 3: one of each is to be picked
	Install  []document.Set // 4: one of each is to be picked
	Remove   document.Set   // 5: none is to be picked
	Upgrades []Upgrade      // 6
}

// Pack is what a package asks for, if it is picked.
type Pack struct {
	Needs []document.Set // one of each is to be picked
	Foes  document.Set   // none is to be picked
}

// Upgrade is what a constraint of UPGRADE asks for.
type Upgrade struct {
	Named document.Set // exactly one is to be picked
	Good  document.Set // and it is to be one of these
}

// RulesOf answers what the document's rules are.
func RulesOf(d document.Document) Rules {
	var r Rules
	for i, p := range d.Packs {
		needs := needed(d.Packs, p)
		foes := opposed(d.Packs, p)
		// A package may fit its own conflicts.
		foes &^= document.One(i)
		r.Packs = append(r.Packs, Pack{Needs: needs, Foes: foes})
	}
	r.Stay = staying(d.Packs)
	r.Install = fitting(d.Packs, d.Install)
	r.Remove = fittingAny(d.Packs, d.Remove)
	r.Upgrades = upgrades(d)
	return r
}

func needed(packs []document.Pack, p document.Pack) []document.Set {
	var needs []document.Set
	for _, need := range p.Needs {
		set := fittingAny(packs, need.Choices)
		needs = append(needs, set)
	}
	return needs
}

// opposed answers the packages that fit a conflict of this one, and those of which it fits a conflict: two cannot stand together, whichever of them says so.
func opposed(packs []document.Pack, p document.Pack) document.Set {
	foes := fittingAny(packs, p.Conflicts)
	for i, other := range packs {
		for _, c := range other.Conflicts {
			if p.Fits(c) {
				foes |= document.One(i)
			}
		}
	}
	return foes
}

func staying(packs []document.Pack) []document.Set {
	var stay []document.Set
	for i, p := range packs {
		if p.Mark == document.MarkVersionStays {
			stay = append(stay, document.One(i))
		}
		if p.Mark == document.MarkNameStays {
			stay = append(stay, document.WithName(packs, p.Name))
		}
	}
	return stay
}

func upgrades(d document.Document) []Upgrade {
	now := document.Now(d.Packs)
	var list []Upgrade
	for _, c := range d.Upgrade {
		named := document.WithName(d.Packs, c.Name)
		least := document.Greatest(d.Packs, named&now)
		good := document.NotBelow(d.Packs, named, least)
		good &= document.Fitting(d.Packs, c)
		list = append(list, Upgrade{Named: named, Good: good})
	}
	return list
}

// fitting answers, for each of the constraints, the packages that fit it.
func fitting(packs []document.Pack, list []document.Constraint) []document.Set {
	var sets []document.Set
	for _, c := range list {
		set := document.Fitting(packs, c)
		sets = append(sets, set)
	}
	return sets
}

// fittingAny answers the packages that fit one of the constraints.
func fittingAny(packs []document.Pack, list []document.Constraint) document.Set {
	found := document.Set(0)
	for _, c := range list {
		found |= document.Fitting(packs, c)
	}
	return found
}
