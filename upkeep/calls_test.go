package upkeep_test

import (
	"strings"
	"testing"

	"upkeep/api"
	"upkeep/upkeep"
)

// oddTexts are texts that a caller should not hand in, and some that it may.
func oddTexts() []string {
	texts := []string{
		"", "/", "///", "////", "a", "a1", "a1+", "a1:::", "a1:::;", "a1:b|", "/a<", "///a,",
		"\x00", "\xff\xfe", "é1:::;///", "a1:::;///\n", "a1:::;a1:::;///",
		manyPacks(20), manyPacks(21), manyPacks(133), ofLength(800), ofLength(802),
		strings.Repeat("a", 800), strings.Repeat("a1:::;", 133), strings.Repeat("a1:::;", 2000000),
		strings.Repeat("/", 9000000), strings.Repeat("\x00", 801), "a1:" + strings.Repeat("b|", 398),
	}
	for b := range 256 {
		texts = append(texts, string([]byte{byte(b)}), strings.Repeat(string([]byte{byte(b)}), 797))
	}
	return texts
}

func TestP1EveryCallEndsAndNonePanics(t *testing.T) {
	for _, text := range oddTexts() {
		upkeep.Check(text)
		upkeep.Show(text)
		for _, other := range []string{"", "a1", "-r", text} {
			upkeep.Valid(text, other)
			upkeep.Score(text, "-r", other)
			upkeep.Score(text, other, "a1")
			upkeep.Solve(text, other)
			upkeep.Choose(text, other)
		}
	}
}

func TestP1TheErrorNamedFirstIsAnswered(t *testing.T) {
	tooMany := strings.Repeat("a1:::;", 21)
	for _, c := range []struct {
		why   string
		doc   string
		errno api.Errno
		place int
	}{
		{"long, no form", strings.Repeat("?", 801), api.ErrLong, 0},
		{"long, too many, twice", strings.Repeat("a1:::;", 140) + "///", api.ErrLong, 0},
		{"long, no form, too many, twice", strings.Repeat("a1:::;", 140), api.ErrLong, 0},
		{"no form, too many, twice", tooMany + "//", api.ErrForm, 128},
		{"no form, too many, twice", tooMany + "///?", api.ErrForm, 129},
		{"no form, too many", manyPacks(21) + "/", api.ErrForm, 129},
		{"no form, twice", "a1:::;a1:::;//", api.ErrForm, 14},
		{"no form, twice", "a1:::;a1:::;///1", api.ErrForm, 15},
		{"too many, twice", tooMany + "///", api.ErrMany, 0},
		{"too many, twice at the last", strings.TrimSuffix(manyPacks(20), "///") + "a1:::;///", api.ErrMany, 0},
	} {
		errno, place := upkeep.Check(c.doc)
		if errno != c.errno || place != c.place {
			t.Errorf("P1, %s: Check(%.40q) = %d, %d, want %d, %d", c.why, c.doc, errno, place, c.errno, c.place)
		}
		text, errno := upkeep.Show(c.doc)
		if errno != c.errno || text != "" {
			t.Errorf("P1, %s: Show(%.40q) = %q, %d, want \"\", %d", c.why, c.doc, text, errno, c.errno)
		}
	}
}

func TestP1NothingComesWithAnError(t *testing.T) {
	for _, doc := range oddTexts() {
		errno, place := upkeep.Check(doc)
		if place != 0 && errno != api.ErrForm && errno != api.ErrTwice {
			t.Errorf("P1: Check(%.40q) = %d, %d: only ErrForm and ErrTwice have a place", doc, errno, place)
		}
		text, showErrno := upkeep.Show(doc)
		if showErrno != errno {
			t.Errorf("P1: Show(%.40q) answers %d, Check %d", doc, showErrno, errno)
		}
		if showErrno != api.OK && text != "" {
			t.Errorf("P1: Show(%.40q) = %q with error %d", doc, text, showErrno)
		}
	}
}

type answer struct {
	errno     api.Errno
	place     int
	text      string
	showErrno api.Errno
}

func ask(doc string) answer {
	var a answer
	a.errno, a.place = upkeep.Check(doc)
	a.text, a.showErrno = upkeep.Show(doc)
	return a
}

func TestP2AnswersDependOnTheArgumentsAlone(t *testing.T) {
	docs := oddTexts()
	d := dice{state: 2}
	for range 300 {
		docs = append(docs, d.document())
	}
	var first []answer
	for _, doc := range docs {
		first = append(first, ask(doc))
	}
	// Backwards, and from copies, so that neither what was asked before nor where a text lies can tell.
	for i := len(docs) - 1; i >= 0; i-- {
		again := ask(strings.Clone(docs[i]))
		if again != first[i] {
			t.Errorf("P2: %.60q: %v first, then %v", docs[i], first[i], again)
		}
	}
}
