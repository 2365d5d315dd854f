package upkeep_test

import (
	"strings"
	"testing"

	"upkeep/api"
	"upkeep/upkeep"
)

// oddTexts are texts that a caller should not hand in, and some that it may.
func oddTexts() []string {
	texts := []string{
		"", "/", "///", "////", "a", "a1", "a1+", "a1:::", "a1:::;", "a1:b|", "/a<", "///a,",
		"\x00", "\xff\xfe", "é1:::;///", "a1:::;///\n", "a1:::;a1:::;///",
		manyPacks(20), manyPacks(21), manyPacks(133), ofLength(800), ofLength(802),
		strings.Repeat("a", 800), strings.Repeat("a1:::;", 133), strings.Repeat("a1:::;", 2000000),
		strings.Repeat("/", 9000000), strings.Repeat("\x00", 801), "a1:" + strings.Repeat("b|", 398),
	}
	for b := range 256 {
		texts = append(texts, string([]byte{byte(b)}), strings.Repeat(string([]byte{byte(b)}), 797))
	}
	return texts
}

func TestP1EveryCallEndsAndNonePanics(t *testing.T) {
	for _, text := range oddTexts() {
		upkeep.Check(text)
		upkeep.Show(text)
		for _, other := range []string{"", "a1", "-r", text} {
			upkeep.Valid(text, other)
			upkeep.Score(text, "-r", other)
			upkeep.Score(text, other, "a1")
			upkeep.Solve(text, other)
			upkeep.Solve(other, text)
			upkeep.Choose(text, other)
			upkeep.Choose(other, text)
		}
	}
}

func TestP1TheErrorNamedFirstIsAnswered(t *testing.T) {
	tooMany := strings.Repeat("a1:::;", 21)
	for _, c := range []struct {
		why   string
		doc   string
		errno api.Errno
		place int
	}{
		{"long, no form", strings.Repeat("?", 801), api.ErrLong, 0},
		{"long, too many, twice", strings.Repeat("a1:::;", 140) + "///", api.ErrLong, 0},
		{"long, no form, too many, twice", strings.Repeat("a1:::;", 140), api.ErrLong, 0},
		{"no form, too many, twice", tooMany + "//", api.ErrForm, 128},
		{"no form, too many, twice", tooMany + "///?", api.ErrForm, 129},
		{"no form, too many", manyPacks(21) + "/", api.ErrForm, 129},
		{"no form, twice", "a1:::;a1:::;//", api.ErrForm, 14},
		{"no form, twice", "a1:::;a1:::;///1", api.ErrForm, 15},
		{"too many, twice", tooMany + "///", api.ErrMany, 0},
		{"too many, twice at the last", strings.TrimSuffix(manyPacks(20), "///") + "a1:::;///", api.ErrMany, 0},
	} {
		errno, place := upkeep.Check(c.doc)
		if errno != c.errno || place != c.place {
			t.Errorf("P1, %s: Check(%.40q) = %d, %d, want %d, %d", c.why, c.doc, errno, place, c.errno, c.place)
		}
		text, errno := upkeep.Show(c.doc)
		if errno != c.errno || text != "" {
			t.Errorf("P1, %s: Show(%.40q) = %q, %d, want \"\", %d", c.why, c.doc, text, errno, c.errno)
		}
	}
}

func TestP1NothingComesWithAnError(t *testing.T) {
	for _, doc := range oddTexts() {
		errno, place := upkeep.Check(doc)
		if place != 0 && errno != api.ErrForm && errno != api.ErrTwice {
			t.Errorf("P1: Check(%.40q) = %d, %d: only ErrForm and ErrTwice have a place", doc, errno, place)
		}
		text, showErrno := upkeep.Show(doc)
		if showErrno != errno {
			t.Errorf("P1: Show(%.40q) answers %d, Check %d", doc, showErrno, errno)
		}
		if showErrno != api.OK && text != "" {
			t.Errorf("P1: Show(%.40q) = %q with error %d", doc, text, showErrno)
		}
		for _, other := range []string{"", "a1", "-r", doc} {
			for _, criteria := range []string{"-r", "", doc} {
				nothingWithAnError(t, doc, criteria, other, errno)
			}
		}
	}
}

// nothingWithAnError asks for a pick, which cannot be answered if the document has a fault.
func nothingWithAnError(t *testing.T, doc, criteria, pick string, checkErrno api.Errno) {
	t.Helper()
	n, errno := upkeep.Valid(doc, pick)
	if errno != api.OK && n != 0 || checkErrno != api.OK && errno != checkErrno {
		t.Errorf("P1: Valid(%.40q, %.40q) = %d, %d, Check's error is %d", doc, pick, n, errno, checkErrno)
	}
	text, errno := upkeep.Score(doc, criteria, pick)
	if errno != api.OK && text != "" || checkErrno != api.OK && errno != checkErrno {
		t.Errorf("P1: Score(%.40q, %.40q, %.40q) = %q, %d, Check's error is %d", doc, criteria, pick, text, errno, checkErrno)
	}
	text, errno = upkeep.Choose(doc, criteria)
	if errno != api.OK && text != "" || checkErrno != api.OK && errno != checkErrno {
		t.Errorf("P1: Choose(%.40q, %.40q) = %q, %d, Check's error is %d", doc, criteria, text, errno, checkErrno)
	}
}

func TestP1NothingComesWithAnErrorOfSolve(t *testing.T) {
	texts := append(oddTexts(), ";", "a;", "aA", "ab;AB;", strings.Repeat("a;", 400), strings.Repeat("a;", 401))
	seen := map[api.Errno]bool{}
	for _, text := range texts {
		for _, other := range []string{"", "a", "a;", ";", "A1", text} {
			for _, pair := range [][2]string{{text, other}, {other, text}} {
				answer, can, errno := upkeep.Solve(pair[0], pair[1])
				seen[errno] = true
				if errno != api.OK && (answer != "" || can) {
					t.Errorf("P1: Solve(%.40q, %.40q) = %q, %v with error %d", pair[0], pair[1], answer, can, errno)
				}
			}
		}
	}
	if len(seen) != 4 || !seen[api.OK] || !seen[api.ErrLong] || !seen[api.ErrClause] || !seen[api.ErrAssume] {
		t.Errorf("P1: errors of Solve: %v", seen)
	}
}

type answer struct {
	errno      api.Errno
	place      int
	text       string
	showErrno  api.Errno
	rule       int
	validErrno api.Errno
	score      string
	scoreErrno api.Errno
	best       string
	bestErrno  api.Errno
}

func ask(doc, pick string) answer {
	var a answer
	a.errno, a.place = upkeep.Check(doc)
	a.text, a.showErrno = upkeep.Show(doc)
	a.rule, a.validErrno = upkeep.Valid(doc, pick)
	a.score, a.scoreErrno = upkeep.Score(doc, "-r+n-c+u", pick)
	a.best, a.bestErrno = upkeep.Choose(doc, "-c+n-r+u")
	return a
}

func TestP2AnswersDependOnTheArgumentsAlone(t *testing.T) {
	docs := oddTexts()
	picks := make([]string, len(docs))
	d := dice{state: 2}
	for range 300 {
		doc := d.sparseDocument()
		all := refRead(doc).allPicks()
		docs = append(docs, doc)
		picks = append(picks, all[d.below(len(all))])
	}
	var first []answer
	for i, doc := range docs {
		first = append(first, ask(doc, picks[i]))
	}
	// Backwards, and from copies, so that neither what was asked before nor where a text lies can tell.
	for i := len(docs) - 1; i >= 0; i-- {
		again := ask(strings.Clone(docs[i]), strings.Clone(picks[i]))
		if again != first[i] {
			t.Errorf("P2: %.60q, %q: %v first, then %v", docs[i], picks[i], first[i], again)
		}
	}
}

func TestP2SolveDependsOnTheArgumentsAlone(t *testing.T) {
	type solved struct {
		text  string
		can   bool
		errno api.Errno
	}
	solve := func(clauses, assume string) solved {
		text, can, errno := upkeep.Solve(clauses, assume)
		return solved{text, can, errno}
	}
	d := dice{state: 27}
	var clauses, assumes []string
	var first []solved
	for range 500 {
		variables := d.variables(1 + d.below(26))
		clauses = append(clauses, d.clauses(variables, d.below(100), 1+d.below(6)))
		assumes = append(assumes, d.literals(variables, d.below(6)))
	}
	for i := range clauses {
		first = append(first, solve(clauses[i], assumes[i]))
	}
	for i := len(clauses) - 1; i >= 0; i-- {
		again := solve(strings.Clone(clauses[i]), strings.Clone(assumes[i]))
		if again != first[i] {
			t.Errorf("P2: Solve(%.60q, %q) = %v first, then %v", clauses[i], assumes[i], first[i], again)
		}
	}
}
