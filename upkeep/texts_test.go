package upkeep_test

import (
	"regexp"
	"slices"
	"strings"
)

// formOf is the form of a document, written from the section "Words" and not from the program.
var formOf = func() *regexp.Regexp {
	constraint := `[a-z]([=<>][1-9])?`
	need := constraint + `(\|` + constraint + `)*`
	list := func(part string) string { return `(` + part + `(,` + part + `)*)?` }
	pack := `[a-z][1-9](\+[!^]?)?:` + list(need) + `:` + list(constraint) + `:` + list(`[a-z]`) + `;`
	return regexp.MustCompile(`\A(` + pack + `)*/` + list(constraint) + `/` + list(constraint) + `/` + list(constraint) + `\z`)
}()

// manyPacks is a document of n packages, no two of them the same.
func manyPacks(n int) string {
	var b strings.Builder
	for i := range n {
		b.WriteByte(byte('a' + i/9))
		b.WriteByte(byte('1' + i%9))
		b.WriteString(":::;")
	}
	return b.String() + "///"
}

// ofLength is a document of n bytes, an even number from 4 on, without packages.
func ofLength(n int) string {
	return "/" + strings.Repeat("a,", (n-4)/2) + "a//"
}

// dice gives the same numbers in every run.
type dice struct{ state uint32 }

func (d *dice) below(n int) int {
	d.state = d.state*1664525 + 1013904223
	return int(d.state>>8) % n
}

func (d *dice) pick(from string) string {
	i := d.below(len(from))
	return from[i : i+1]
}

func (d *dice) constraint() string {
	c := d.pick("abc")
	if d.below(2) == 0 {
		c += d.pick("=<>") + d.pick("123")
	}
	return c
}

func (d *dice) constraints(least int, between string) string {
	var parts []string
	for range least + d.below(4) {
		parts = append(parts, d.constraint())
	}
	return strings.Join(parts, between)
}

func (d *dice) needs() string {
	var parts []string
	for range d.below(4) {
		parts = append(parts, d.constraints(1, "|"))
	}
	return strings.Join(parts, ",")
}

func (d *dice) names() string {
	var parts []string
	for range d.below(4) {
		parts = append(parts, d.pick("abc"))
	}
	return strings.Join(parts, ",")
}

// document throws a document of at most 6 packages, no two of them the same.
func (d *dice) document() string {
	text := ""
	var seen []string
	for range d.below(7) {
		head := d.pick("abcd") + d.pick("123")
		if slices.Contains(seen, head) {
			continue
		}
		seen = append(seen, head)
		mark := []string{"", "+", "+!", "+^"}[d.below(4)]
		text += head + mark + ":" + d.needs() + ":" + d.constraints(0, ",") + ":" + d.names() + ";"
	}
	return text + "/" + d.constraints(0, ",") + "/" + d.constraints(0, ",") + "/" + d.constraints(0, ",")
}

// sparseDocument throws a document in which many lists are empty, so that each rule is now and then the first that does not hold.
func (d *dice) sparseDocument() string {
	doc := d.document()
	fields := strings.Split(doc, "/")
	packs := strings.SplitAfter(fields[0], ";")
	for i := range len(packs) - 1 {
		parts := strings.Split(packs[i], ":")
		for k := 1; k <= 2; k++ {
			if d.below(3) > 0 {
				parts[k] = ""
			}
		}
		if d.below(2) == 0 {
			parts[0] = strings.TrimRight(parts[0], "!^")
		}
		packs[i] = strings.Join(parts, ":")
	}
	for i := 1; i <= 3; i++ {
		list := split(fields[i], ",")
		fields[i] = strings.Join(list[:min(len(list), d.below(3))], ",")
	}
	fields[0] = strings.Join(packs, "")
	return strings.Join(fields, "/")
}

// spoiled changes, takes out or puts in one byte.
func (d *dice) spoiled(text string) string {
	at := d.below(len(text) + 1)
	b := d.pick("ab10+!^:,|=<>/; A\x00")
	switch d.below(3) {
	case 0:
		return text[:at] + b + text[at:]
	case 1:
		return text[:at] + text[min(at+1, len(text)):]
	}
	return text[:at] + b + text[min(at+1, len(text)):]
}
