package choice

import (
	"upkeep/document"
	"upkeep/picks"
)

// next answers the number of a package to decide on, or how many packages there are if all is decided. What is asked for goes first: if it cannot be had, that is found out before the rest is tried.
func (t task) next(span document.Span) int {
	open := asked(t.rules, span.Sure) & span.Possible
	if open == 0 {
		open = span.Possible &^ span.Sure
	}
	for i := range t.rules.Packs {
		if open.Has(i) {
			return i
		}
	}
	return len(t.rules.Packs)
}

// asked answers packages of which one must be picked and none is sure yet, or none, if nothing is asked for any more.
func asked(r picks.Rules, sure document.Set) document.Set {
	set := needed(r.Packs, sure)
	if set == 0 {
		set = firstUnmet(r.Stay, sure)
	}
	if set == 0 {
		set = firstUnmet(r.Install, sure)
	}
	if set == 0 {
		set = upgraded(r.Upgrades, sure)
	}
	return set
}

func needed(packs []picks.Pack, sure document.Set) document.Set {
	for i, p := range packs {
		if !sure.Has(i) {
			continue
		}
		set := firstUnmet(p.Needs, sure)
		if set != 0 {
			return set
		}
	}
	return 0
}

func upgraded(upgrades []picks.Upgrade, sure document.Set) document.Set {
	for _, u := range upgrades {
		if u.Good&sure == 0 {
			return u.Good
		}
	}
	return 0
}

func firstUnmet(sets []document.Set, sure document.Set) document.Set {
	for _, set := range sets {
		if set&sure == 0 {
			return set
		}
	}
	return 0
}
