// Package solver: how clauses and literals are read, and whether an assignment meets them.
package solver

// Set is a set of literals, a bit each: A to Z, then a to z, so that the order of the bits is that of the bytes. A clause is such a set: that a literal comes more than once in it does not matter.
type Set uint64

// variables is how many variables there are, and so how many bits a literal is away from its opposite.
const variables = 26

const capitals Set = 1<<variables - 1

// literal is the set of this letter alone, and the empty set if the byte is no letter.
func literal(b byte) Set {
	if b >= 'A' && b <= 'Z' {
		return Set(1) << (b - 'A')
	}
	if b >= 'a' && b <= 'z' {
		return Set(1) << (b - 'a' + variables)
	}
	return 0
}

func (s Set) opposites() Set {
	return s>>variables | (s&capitals)<<variables
}

// first is the set of the first of the literals alone, and empty if there is none.
func (s Set) first() Set {
	return s & -s
}

func (s Set) size() int {
	size := 0
	for s != 0 {
		s &^= s.first()
		size++
	}
	return size
}

// ByBytes writes the literals in the order of bytes.
func (s Set) ByBytes() string {
	var text []byte
	for b := byte('A'); b <= 'z'; b++ {
		if s&literal(b) != 0 {
			text = append(text, b)
		}
	}
	return string(text)
}

// ByVariables writes the literals in the order of the alphabet, those of one variable in the order of bytes.
func (s Set) ByVariables() string {
	var text []byte
	for i := byte(0); i < variables; i++ {
		if s&literal('A'+i) != 0 {
			text = append(text, 'A'+i)
		}
		if s&literal('a'+i) != 0 {
			text = append(text, 'a'+i)
		}
	}
	return string(text)
}
