package solver

import "upkeep/api"

// end stands behind each clause.
const end = ';'

// Reading is what came of reading clauses: the clauses, or an error.
type Reading struct {
	Clauses []Set
	Errno   api.Errno
}

// Read reads clauses.
func Read(text string) Reading {
	if len(text) > 0 && text[len(text)-1] != end {
		return Reading{Errno: api.ErrClause}
	}
	var clauses []Set
	clause := Set(0)
	for i := 0; i < len(text); i++ {
		letter := literal(text[i])
		if text[i] == end {
			clauses = append(clauses, clause)
			clause = 0
		} else if letter == 0 {
			return Reading{Errno: api.ErrClause}
		}
		clause |= letter
	}
	return Reading{Clauses: clauses}
}

// Assumption is what came of reading the literals to be met beside the clauses: these, or an error.
type Assumption struct {
	Literals Set
	Errno    api.Errno
}

// ReadAssumption reads literals.
func ReadAssumption(text string) Assumption {
	literals := Set(0)
	for i := 0; i < len(text); i++ {
		letter := literal(text[i])
		if letter == 0 {
			return Assumption{Errno: api.ErrAssume}
		}
		literals |= letter
	}
	return Assumption{Literals: literals}
}
