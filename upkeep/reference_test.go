package upkeep_test

import (
	"slices"
	"strconv"
	"strings"
)

// This file says once more what a pick is, when it is valid, what criteria count, and which pick is better, written from the section "Words" and not from the program: on texts, by sets of names, without a thought of speed.

// split is a list's parts; the empty list has none.
func split(list, between string) []string {
	if list == "" {
		return nil
	}
	return strings.Split(list, between)
}

// refDoc is a document, its packages by the two bytes that name them.
type refDoc struct {
	packs                    map[string]refPack
	install, remove, upgrade []string
}

type refPack struct {
	mark                       string
	needs, conflicts, provides []string
}

func refRead(doc string) refDoc {
	fields := strings.Split(doc, "/")
	d := refDoc{packs: map[string]refPack{}}
	for _, text := range split(strings.TrimSuffix(fields[0], ";"), ";") {
		parts := strings.Split(text, ":")
		d.packs[text[:2]] = refPack{parts[0][2:], split(parts[1], ","), split(parts[2], ","), split(parts[3], ",")}
	}
	d.install, d.remove, d.upgrade = split(fields[1], ","), split(fields[2], ","), split(fields[3], ",")
	return d
}

// heads are the packages' names and versions, in the order of bytes.
func (d refDoc) heads() []string {
	var heads []string
	for head := range d.packs {
		heads = append(heads, head)
	}
	slices.Sort(heads)
	return heads
}

func (d refDoc) now() []string {
	var now []string
	for _, head := range d.heads() {
		if strings.HasPrefix(d.packs[head].mark, "+") {
			now = append(now, head)
		}
	}
	return now
}

// allPicks are all picks of the document, each as a text.
func (d refDoc) allPicks() []string {
	all := []string{""}
	for _, head := range d.heads() {
		for _, pick := range all[:len(all):len(all)] {
			all = append(all, pick+head)
		}
	}
	return all
}

// refHeads takes a pick apart.
func refHeads(pick string) []string {
	var heads []string
	for i := 0; i < len(pick); i += 2 {
		heads = append(heads, pick[i:i+2])
	}
	return heads
}

func (d refDoc) fits(head, constraint string) bool {
	if len(constraint) == 1 {
		return head[:1] == constraint || slices.Contains(d.packs[head].provides, constraint)
	}
	if head[:1] != constraint[:1] {
		return false
	}
	order := strings.Compare(head[1:], constraint[2:])
	return order == 0 || order < 0 && constraint[1] == '<' || order > 0 && constraint[1] == '>'
}

func (d refDoc) fitted(heads []string, constraint string) bool {
	return slices.ContainsFunc(heads, func(head string) bool { return d.fits(head, constraint) })
}

// versions are those of a name, from the least to the greatest.
func versionsOf(heads []string, name string) []string {
	var found []string
	for _, head := range heads {
		if head[:1] == name {
			found = append(found, head[1:])
		}
	}
	slices.Sort(found)
	return found
}

// holds tells whether a rule holds for a pick.
func (d refDoc) holds(rule int, heads []string) bool {
	switch rule {
	case 1:
		for _, head := range heads {
			for _, need := range d.packs[head].needs {
				if !slices.ContainsFunc(strings.Split(need, "|"), func(c string) bool { return d.fitted(heads, c) }) {
					return false
				}
			}
		}
	case 2:
		for _, head := range heads {
			for _, c := range d.packs[head].conflicts {
				if slices.ContainsFunc(heads, func(other string) bool { return other != head && d.fits(other, c) }) {
					return false
				}
			}
		}
	case 3:
		for head, p := range d.packs {
			if p.mark == "+!" && !slices.Contains(heads, head) || p.mark == "+^" && len(versionsOf(heads, head[:1])) == 0 {
				return false
			}
		}
	case 4:
		return !slices.ContainsFunc(d.install, func(c string) bool { return !d.fitted(heads, c) })
	case 5:
		return !slices.ContainsFunc(d.remove, func(c string) bool { return d.fitted(heads, c) })
	case 6:
		for _, c := range d.upgrade {
			picked, now := versionsOf(heads, c[:1]), versionsOf(d.now(), c[:1])
			if len(picked) != 1 || !d.fits(c[:1]+picked[0], c) || len(now) > 0 && picked[0] < slices.Max(now) {
				return false
			}
		}
	}
	return true
}

// refValid is P5 for a document without a fault and a pick of it.
func refValid(doc, pick string) int {
	d, heads := refRead(doc), refHeads(pick)
	for rule := 1; rule <= 6; rule++ {
		if !d.holds(rule, heads) {
			return rule
		}
	}
	return 0
}

// refScore is P6 for a document without a fault, criteria, and a pick of it.
func refScore(doc, criteria, pick string) string {
	d, heads := refRead(doc), refHeads(pick)
	names := map[string]bool{}
	for head := range d.packs {
		names[head[:1]] = true
	}
	var numbers []string
	for _, criterion := range refHeads(criteria) {
		number := 0
		for name := range names {
			picked, now, all := versionsOf(heads, name), versionsOf(d.now(), name), versionsOf(d.heads(), name)
			if map[string]bool{
				"r": len(now) > 0 && len(picked) == 0,
				"n": len(picked) > 0 && len(now) == 0,
				"c": !slices.Equal(picked, now),
				"u": len(picked) > 0 && picked[len(picked)-1] != all[len(all)-1],
			}[criterion[1:]] {
				number++
			}
		}
		numbers = append(numbers, strconv.Itoa(number))
	}
	return strings.Join(numbers, ",")
}

// refBetter tells whether the one score is better than the other by the criteria.
func refBetter(criteria, one, other string) bool {
	ones, others := strings.Split(one, ","), strings.Split(other, ",")
	for i, criterion := range refHeads(criteria) {
		a, _ := strconv.Atoi(ones[i])
		b, _ := strconv.Atoi(others[i])
		if a != b {
			return a < b && criterion[0] == '-' || a > b && criterion[0] == '+'
		}
	}
	return false
}

// refAllValid are the valid picks of a document. It tries all picks.
func refAllValid(doc string) []string {
	var valid []string
	for _, pick := range refRead(doc).allPicks() {
		if refValid(doc, pick) == 0 {
			valid = append(valid, pick)
		}
	}
	return valid
}

// refBest are those of some picks that none of them is better than, and their score.
func refBest(doc, criteria string, from []string) ([]string, string) {
	var best []string
	top := ""
	for _, pick := range from {
		score := refScore(doc, criteria, pick)
		if len(best) == 0 || refBetter(criteria, score, top) {
			best, top = nil, score
		}
		if score == top {
			best = append(best, pick)
		}
	}
	return best, top
}

// refVariables are the variables that occur in the texts, in the order of the alphabet.
func refVariables(texts ...string) string {
	all := strings.ToLower(strings.Join(texts, ""))
	variables := ""
	for v := 'a'; v <= 'z'; v++ {
		if strings.ContainsRune(all, v) {
			variables += string(v)
		}
	}
	return variables
}

// refMeets tells whether an assignment, as a text of its literals, meets all clauses and all literals of assume.
func refMeets(clauses, assume, assignment string) bool {
	for clauses != "" {
		var clause string
		clause, clauses, _ = strings.Cut(clauses, ";")
		if !strings.ContainsAny(clause, assignment) {
			return false
		}
	}
	for i := range len(assume) {
		if strings.IndexByte(assignment, assume[i]) < 0 {
			return false
		}
	}
	return true
}

// refCan tries every assignment of the variables that occur.
func refCan(clauses, assume string) bool {
	variables := refVariables(clauses, assume)
	for bits := range 1 << len(variables) {
		assignment := []byte(variables)
		for i := range assignment {
			if bits>>i&1 == 1 {
				assignment[i] -= 'a' - 'A'
			}
		}
		if refMeets(clauses, assume, string(assignment)) {
			return true
		}
	}
	return false
}
