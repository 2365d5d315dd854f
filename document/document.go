// Package document: what a document says, how it is read, and how it is written in its usual form.
package document

// Mark tells whether a package is installed now, and what of it must stay.
type Mark int

const (
	MarkNone         Mark = 0
	MarkNow          Mark = 1 // +
	MarkVersionStays Mark = 2 // +!
	MarkNameStays    Mark = 3 // +^
)

// Constraint is a name alone (then Sign and Version are 0), or a name with a sign and a version.
type Constraint struct {
	Name    byte
	Sign    byte
	Version byte
}

// Need has one or more constraints, of which one is enough.
type Need struct {
	Choices []Constraint
}

// Pack is a package; its name and its version are bytes of the text.
type Pack struct {
	Name      byte
	Version   byte
	Mark      Mark
	Needs     []Need
	Conflicts []Constraint
	Provides  []byte
}

// Document keeps packages and parts as they stand in the text, repeated ones too.
type Document struct {
	Packs   []Pack
	Install []Constraint
	Remove  []Constraint
	Upgrade []Constraint
}
