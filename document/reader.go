package document

// reader goes through a text byte by byte. At a byte that cannot stand where it does, or at an end that comes too early, it stops for good, so that at remains the place of the fault.
type reader struct {
	text   string
	at     int
	faulty bool
}

// ahead answers the byte that comes next. It is 0 where nothing can be read; as that byte stands nowhere in a document, it needs no answer of its own.
func (r *reader) ahead() byte {
	if r.faulty || r.at >= len(r.text) {
		return 0
	}
	return r.text[r.at]
}

// accept passes the wanted byte, if it comes next.
func (r *reader) accept(wanted byte) bool {
	b := r.ahead()
	if b == 0 || b != wanted {
		return false
	}
	r.at++
	return true
}

// expect passes the wanted byte, which must come next.
func (r *reader) expect(wanted byte) {
	if !r.accept(wanted) {
		r.faulty = true
	}
}

// expectEnd is for the place behind the last list.
func (r *reader) expectEnd() {
	if r.at < len(r.text) {
		r.faulty = true
	}
}

// name passes a name, which must come next.
func (r *reader) name() byte {
	b := r.ahead()
	if !isName(b) {
		r.faulty = true
		return 0
	}
	r.at++
	return b
}

// version passes a version, which must come next.
func (r *reader) version() byte {
	b := r.ahead()
	if b < '1' || b > '9' {
		r.faulty = true
		return 0
	}
	r.at++
	return b
}

// sign passes a sign, if one comes next, and answers 0 else.
func (r *reader) sign() byte {
	b := r.ahead()
	if b != '=' && b != '<' && b != '>' {
		return 0
	}
	r.at++
	return b
}

// nameAhead tells whether there is something in a list, as all that a list may have begins with a name.
func (r *reader) nameAhead() bool {
	b := r.ahead()
	return isName(b)
}

func isName(b byte) bool {
	return b >= 'a' && b <= 'z'
}
