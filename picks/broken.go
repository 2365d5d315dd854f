package picks

import "upkeep/document"

// FirstBroken answers the number of the first of the rules 1 to 6 that holds for no pick of the span, or 0 if there is no such rule. For a pick alone that is the first rule that it breaks. For more picks it is enough to look at the best case of each rule: what is asked for may be any package that is possible, what is ruled out does harm only if it is sure.
func FirstBroken(r Rules, span document.Span) int {
	if !needsMet(r.Packs, span) {
		return 1
	}
	if !noConflict(r.Packs, span.Sure) {
		return 2
	}
	if !eachMet(r.Stay, span.Possible) {
		return 3
	}
	if !eachMet(r.Install, span.Possible) {
		return 4
	}
	if r.Remove&span.Sure != 0 {
		return 5
	}
	if !upgraded(r.Upgrades, span) {
		return 6
	}
	return 0
}

func needsMet(packs []Pack, span document.Span) bool {
	for i, p := range packs {
		if span.Sure.Has(i) && !eachMet(p.Needs, span.Possible) {
			return false
		}
	}
	return true
}

func noConflict(packs []Pack, sure document.Set) bool {
	for i, p := range packs {
		if sure.Has(i) && p.Foes&sure != 0 {
			return false
		}
	}
	return true
}

func upgraded(upgrades []Upgrade, span document.Span) bool {
	for _, u := range upgrades {
		named := u.Named & span.Sure
		if named.Several() || named&^u.Good != 0 || u.Good&span.Possible == 0 {
			return false
		}
	}
	return true
}

// eachMet tells whether each of the sets has one of the packages.
func eachMet(sets []document.Set, packs document.Set) bool {
	for _, set := range sets {
		if set&packs == 0 {
			return false
		}
	}
	return true
}
