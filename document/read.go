package document

import "upkeep/api"

// Reading is what came of reading a text: a document, or an error and its place.
type Reading struct {
	Doc   Document
	Errno api.Errno
	Place int
}

// Read reads a text. The form is looked at to the end before packages are counted, as a fault in it goes ahead of what is wrong with packages.
func Read(text string) Reading {
	if len(text) > api.MaxText {
		return Reading{Errno: api.ErrLong}
	}
	r := reader{text: text}
	d := r.document()
	if r.faulty {
		return Reading{Errno: api.ErrForm, Place: r.at}
	}
	if len(d.Packs) > api.MaxPacks {
		return Reading{Errno: api.ErrMany}
	}
	twice := firstTwice(d.Packs)
	if twice < len(d.Packs) {
		return Reading{Errno: api.ErrTwice, Place: twice}
	}
	return Reading{Doc: d}
}

// firstTwice answers the number of the first package that one ahead of it equals in name and version, or how many there are if none does.
func firstTwice(packs []Pack) int {
	for i, p := range packs {
		if Number(packs, p.Name, p.Version) < i {
			return i
		}
	}
	return len(packs)
}

func (r *reader) document() Document {
	var d Document
	for r.nameAhead() {
		p := r.pack()
		d.Packs = append(d.Packs, p)
	}
	r.expect('/')
	d.Install = r.constraints()
	r.expect('/')
	d.Remove = r.constraints()
	r.expect('/')
	d.Upgrade = r.constraints()
	r.expectEnd()
	return d
}

func (r *reader) pack() Pack {
	var p Pack
	p.Name = r.name()
	p.Version = r.version()
	p.Mark = r.mark()
	r.expect(':')
	p.Needs = r.needs()
	r.expect(':')
	p.Conflicts = r.constraints()
	r.expect(':')
	p.Provides = r.names()
	r.expect(';')
	return p
}

func (r *reader) mark() Mark {
	if !r.accept('+') {
		return MarkNone
	}
	if r.accept('!') {
		return MarkVersionStays
	}
	if r.accept('^') {
		return MarkNameStays
	}
	return MarkNow
}

func (r *reader) needs() []Need {
	var needs []Need
	for more := r.nameAhead(); more; more = r.accept(',') {
		choices := r.constraintsApart('|')
		needs = append(needs, Need{Choices: choices})
	}
	return needs
}

func (r *reader) constraints() []Constraint {
	if !r.nameAhead() {
		return nil
	}
	return r.constraintsApart(',')
}

// constraintsApart reads one or more constraints with the byte between.
func (r *reader) constraintsApart(between byte) []Constraint {
	var list []Constraint
	for more := true; more; more = r.accept(between) {
		c := r.constraint()
		list = append(list, c)
	}
	return list
}

func (r *reader) constraint() Constraint {
	var c Constraint
	c.Name = r.name()
	c.Sign = r.sign()
	if c.Sign != 0 {
		c.Version = r.version()
	}
	return c
}

func (r *reader) names() []byte {
	var names []byte
	for more := r.nameAhead(); more; more = r.accept(',') {
		name := r.name()
		names = append(names, name)
	}
	return names
}
