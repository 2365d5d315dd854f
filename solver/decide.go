package solver

// Answer is what came of a search. If the clauses can be met, the literals are those of an assignment that meets them; else they are some of those assumed, and the clauses cannot be met together with them.
type Answer struct {
	Can      bool
	Literals Set
}

// Decide tells whether an assignment meets the clauses and the assumed literals. If so, the answer has a literal for each variable that occurs in either.
func Decide(clauses []Set, assumed Set) Answer {
	clash := assumed & assumed.opposites()
	if clash != 0 {
		return Answer{Literals: clash}
	}
	answer := search(clauses, assumed)
	if answer.Can {
		literals := allLiterals(clauses, assumed)
		answer.Literals |= unsaid(literals, answer.Literals)
	}
	return answer
}

// search tries the assignments that meet the literals so far, no two of which are opposites. A literal is added in each step, so that there are at most as many steps, one inside the other, as variables.
//
// A refusal names only the literals that it comes from: where the one just added is not among them, its opposite would be refused for the same reason and is not tried. A clause with one literal left needs no care of its own: the opposite of that literal is refused at once.
func search(clauses []Set, met Set) Answer {
	number := tightest(clauses, met)
	if number >= len(clauses) {
		return Answer{Can: true, Literals: met}
	}
	clause := clauses[number]
	open := clause &^ met.opposites()
	if open == 0 {
		return Answer{Literals: clause.opposites()}
	}
	added := open.first()
	with := search(clauses, met|added)
	if with.Can || with.Literals&added == 0 {
		return with
	}
	opposite := added.opposites()
	against := search(clauses, met|opposite)
	if against.Can || against.Literals&opposite == 0 {
		return against
	}
	return Answer{Literals: (with.Literals | against.Literals) &^ (added | opposite)}
}

// tightest answers the number of a clause that is not met yet and has the fewest literals left that can be, or the number of clauses, if all are met. A clause with both literals of a variable is met by every assignment: to choose by it would only make the search longer.
func tightest(clauses []Set, met Set) int {
	found := len(clauses)
	fewest := 0
	for i, clause := range clauses {
		if clause&met != 0 || clause&clause.opposites() != 0 {
			continue
		}
		open := clause &^ met.opposites()
		size := open.size()
		if found == len(clauses) || size < fewest {
			found = i
			fewest = size
		}
	}
	return found
}

func allLiterals(clauses []Set, assumed Set) Set {
	literals := assumed
	for _, clause := range clauses {
		literals |= clause
	}
	return literals
}

// unsaid answers a literal for each variable that occurs but that nothing is said of: that it is false, as either would do.
func unsaid(literals Set, said Set) Set {
	occurring := literals | literals.opposites()
	known := said | said.opposites()
	return occurring & capitals &^ known
}
