package upkeep_test

import (
	"fmt"
	"slices"
	"strconv"
	"strings"
	"testing"

	"upkeep/api"
	"upkeep/upkeep"
)

// wantChosen holds Choose to one of the picks.
func wantChosen(t *testing.T, doc, criteria string, picks ...string) {
	t.Helper()
	pick, errno := upkeep.Choose(doc, criteria)
	if errno != api.OK || !slices.Contains(picks, pick) {
		t.Errorf("P8: Choose(%.200q, %q) = %q, %d, want one of %.200q, 0", doc, criteria, pick, errno, picks)
	}
}

func wantNotChosen(t *testing.T, doc, criteria string, want api.Errno) {
	t.Helper()
	pick, errno := upkeep.Choose(doc, criteria)
	if pick != "" || errno != want {
		t.Errorf("P8: Choose(%.200q, %.60q) = %q, %d, want \"\", %d", doc, criteria, pick, errno, want)
	}
}

// wantBestOf is for documents of which all picks can be tried: these are all valid ones.
func wantBestOf(t *testing.T, doc, criteria string, valid []string) {
	t.Helper()
	if len(valid) == 0 {
		wantNotChosen(t, doc, criteria, api.ErrNone)
		return
	}
	best, _ := refBest(doc, criteria, valid)
	wantChosen(t, doc, criteria, best...)
}

// wantScored is for documents with too many picks to try, of which it is known how well the best one does.
func wantScored(t *testing.T, doc, criteria, score string) {
	t.Helper()
	pick, errno := upkeep.Choose(doc, criteria)
	if errno != api.OK {
		t.Errorf("P8: Choose(%q, %q) = %q, %d, but a pick is valid", doc, criteria, pick, errno)
		return
	}
	heads := refHeads(pick)
	all := refRead(doc).heads()
	if len(pick)%2 != 0 || !slices.IsSorted(heads) || slices.ContainsFunc(heads, func(head string) bool { return !slices.Contains(all, head) }) {
		t.Errorf("P8: Choose(%q, %q) = %q: no pick", doc, criteria, pick)
		return
	}
	if rule := refValid(doc, pick); rule != 0 {
		t.Errorf("P8: Choose(%q, %q) = %q: rule %d does not hold", doc, criteria, pick, rule)
	}
	if got := refScore(doc, criteria, pick); got != score {
		t.Errorf("P8: Choose(%q, %q) = %q: %s, want %s", doc, criteria, pick, got, score)
	}
}

// criteria throws criteria of n parts.
func (d *dice) criteria(n int) string {
	criteria := ""
	for range n {
		criteria += d.pick("-+") + d.pick("rncu")
	}
	return criteria
}

// eachCriterion are all criteria of one part.
func eachCriterion() []string {
	return refHeads("-r+r-n+n-c+c-u+u")
}

func TestP8Examples(t *testing.T) {
	doc := "a1+:b::;a2:b>2::;b1+:::;b2:::;/a//b"
	wantChosen(t, doc, "-c", "a1b1")
	wantChosen(t, doc, "-u", "a2b2", "a1a2b2")
	wantChosen(t, doc+">2", "-c", "a1b2")
	for _, criteria := range eachCriterion() {
		wantNotChosen(t, "a1:b::;/a//", criteria, api.ErrNone)
	}
	wantChosen(t, "a1:b::;///", "+n", "")
}

func TestP8EachCriterion(t *testing.T) {
	for _, c := range []struct {
		doc, criteria string
		picks         []string
	}{
		{"a1+:::;b1+::a:;///", "-r", []string{"a1", "b1"}},
		{"a1+:::;b1+::a:;///", "+r", []string{""}},
		{"a1+:::;a2:::;b1+!:::;///", "+r", []string{"b1"}},
		{"a1+:::;a2:::;//a<1/", "-r", []string{"a2"}},
		{"a1+:::;b1:::a;//a=1/", "-r", []string{"", "b1"}},
		{"a1:::;b1+:::;///", "-n", []string{"", "b1"}},
		{"a1:::;b1+:::;///", "+n", []string{"a1", "a1b1"}},
		{"a1:::;a2:::;b1:::;///", "+n", []string{"a1b1", "a2b1", "a1a2b1"}},
		{"a1:::v;b1:::;/v,b//", "-n", []string{"a1b1"}},
		{"a1:::v,w;b1:::v;c1:::w;/v,w//", "-n", []string{"a1"}},
		{"a1+:::;a2:::;b1:::;///", "-c", []string{"a1"}},
		{"a1+:::;a2:::;b1:::;///", "+c", []string{"b1", "a2b1", "a1a2b1"}},
		{"a1+:::;a2+:::;a3:::;///", "-c", []string{"a1a2"}},
		{"a1+:::;a2+:::;a3:::;b1+:::;///a", "-c", []string{"a2b1", "a3b1"}},
		{"a1:::;a2:::;b1:::;b2:::;/a,b//", "-u", []string{"a2b2", "a1a2b2", "a2b1b2", "a1a2b1b2"}},
		{"a1:::;a2:::;b1:::;b2:::;/a,b//", "+u", []string{"a1b1"}},
		{"a1:::;a3:::;a2:::;///", "+u", []string{"a1", "a2", "a1a2"}},
		{"a1:::;a2::a<1:;b1:a=1::;/b//", "-u", []string{"a1b1"}},
	} {
		wantChosen(t, c.doc, c.criteria, c.picks...)
	}
}

// TestP8TheFirstCriterionThatDiffers has documents in which two criteria draw to two sides.
func TestP8TheFirstCriterionThatDiffers(t *testing.T) {
	for _, c := range []struct {
		doc, criteria string
		picks         []string
	}{
		{"a1+:b|c::;b1:::;c1:::;///", "-r-n", []string{"a1b1", "a1c1"}},
		{"a1+:b|c::;b1:::;c1:::;///", "-n-r", []string{""}},
		{"a1+:b|c::;b1:::;c1:::;///", "-r+n", []string{"a1b1c1"}},
		{"a1+:b|c::;b1:::;c1:::;///", "+r-n", []string{""}},
		{"a1+:b|c::;b1:::;c1:::;///", "+r+n", []string{"b1c1"}},
		{"a1+:::;a2:b::;b1:::;/a//", "-u-n", []string{"a2b1", "a1a2b1"}},
		{"a1+:::;a2:b::;b1:::;/a//", "-n-u", []string{"a1"}},
		{"a1+:::;a2:b::;b1:::;/a//", "-u-c", []string{"a2b1", "a1a2b1"}},
		{"a1+:::;a2:b::;b1:::;/a//", "-c-u", []string{"a1"}},
		{"a1+:::;a2:b::;b1:::;/a//", "+u-c", []string{"a1"}},
		{"a1+:::;a2:b::;b1:::;/a//", "+u+c", []string{"a1b1"}},
		{"a1+:::;a2:b::;b1:::;/a//", "+c-u-n", []string{"a2b1", "a1a2b1"}},
		{"a1+:::;a2:b::;b1:::;///", "+c+r", []string{"b1"}},
		{"a1+:::;a2:b::;b1:::;///", "+r-n-c-u", []string{""}},
		{"a1+:::;b1+:::;b2::a:;c1:::;/c//b", "-n-r-u+c", []string{"a1b1c1"}},
		{"a1+:::;b1+:::;b2::a:;c1:::;/c//b", "-n-u-r+c", []string{"b2c1"}},
		// The same letter again says nothing new, whatever its sign.
		{"a1:::;///", "-n+n", []string{""}},
		{"a1:::;///", "+n-n", []string{"a1"}},
		{"a1:::;b1+:::;///", "+n-n-n-c", []string{"a1b1"}},
		{"a1:::;b1+:::;///", "-n+n+n+r", []string{""}},
	} {
		wantChosen(t, c.doc, c.criteria, c.picks...)
		wantBestOf(t, c.doc, c.criteria, refAllValid(c.doc))
	}
}

// TestP8OneAgainstMany tells that no number for a later criterion, however great, makes up for one less of an earlier one.
func TestP8OneAgainstMany(t *testing.T) {
	others := strings.Split("b1 c1 d1 e1 f1 g1 h1 i1 j1 k1 l1 m1 n1 o1 p1 q1 r1 s1 t1", " ")
	all := strings.Join(others, "")
	rest := strings.Join(others, "::a:;") + "::a:;"
	for _, against := range []string{"a1+:::;" + rest + "///", rest + "a1+:::;///"} {
		wantChosen(t, against, "-r+n", "a1")
		wantChosen(t, against, "-r+c", "a1")
		wantChosen(t, against, "-u-r+c+n", "a1")
		wantChosen(t, against, "+n-r", all)
		wantChosen(t, against, "+c-r", all)
		wantChosen(t, against, "+r-n", "")
		wantChosen(t, against, "+r-c", "")
	}
	// a2 stays only with all others but t1 new, so that a stays at the price of 19 names that change.
	most := others[:18]
	names := "b"
	for _, head := range most[1:] {
		names += "," + head[:1]
	}
	together := "a1+:::;a2:" + names + "::;" + strings.Join(most, ":::;") + ":::;//a=1/"
	wantChosen(t, together, "-r-c", "a2"+strings.Join(most, ""))
	wantChosen(t, together, "-r-n", "a2"+strings.Join(most, ""))
	wantChosen(t, together, "-c-r", "")
	wantChosen(t, together, "-n-r", "")
}

// TestP8EachRule has documents in which what would be best but for one rule is not valid.
func TestP8EachRule(t *testing.T) {
	for _, c := range []struct {
		doc, criteria string
		picks         []string
	}{
		// 1
		{"a1:b::;b1:::;/a//", "-n", []string{"a1b1"}},
		{"a1:b,c::;b1:::;c1:::;/a//", "-n", []string{"a1b1c1"}},
		{"a1:b|c::;b1+:::;c1:::;/a//", "-n", []string{"a1b1"}},
		{"a1:a::;///", "+n", []string{"a1"}},
		{"a1:v::v;///", "+n", []string{"a1"}},
		{"a1:v::;b1+:::v;/a//", "+r", []string{"a1b1"}},
		{"a1:v=1::;b1+:::v;///", "+n", []string{"", "b1"}},
		{"a1:a=2::;a2:a=3::;a3:a=1::;/a//", "-n", []string{"a1a2a3"}},
		// 2
		{"a1::b:;b1:::;///", "+n", []string{"a1", "b1"}},
		{"a1:::;b1::a:;///", "+n", []string{"a1", "b1"}},
		{"a1+!:::;b1::a:;///", "+n", []string{"a1"}},
		{"b1::a:;a1+!:::;///", "+n", []string{"a1"}},
		{"a1::a:;///", "+n", []string{"a1"}},
		{"a1::v:v;b1:::v;c1:::;///", "+n", []string{"a1c1", "b1c1"}},
		{"a1::b>2:;b1:::;b2:::;/a,b//", "-u", []string{"a1b1"}},
		{"a1::b=2:;b1:::;b2:::;c1:::b;/a//", "+n", []string{"a1b1c1"}},
		// 3
		{"a1+!:::;a2:::;///", "+r+c-u", []string{"a1a2"}},
		{"a1+^:::;a2:::;///", "+r+c+u", []string{"a2", "a1a2"}},
		{"a1+^:::;b1:::a;///", "+r", []string{"a1", "a1b1"}},
		{"a1+^:::;a2::a=1:;a3::a:;///", "+c-u", []string{"a3"}},
		{"b1:::;a1+!:::;///", "+r+n", []string{"a1b1"}},
		// 4
		{"a1:::;/a//", "-n", []string{"a1"}},
		{"a1:::v;b1+:::v;/v//", "-n", []string{"b1"}},
		{"a1:::;a2:::;/a=1,a=2//", "-c", []string{"a1a2"}},
		{"a1:::;a2:::;/a>2//", "+u", []string{"a2", "a1a2"}},
		// 5
		{"a1:::;//a/", "+n", []string{""}},
		{"a1+:::v;b1:::;//v/", "-r+n", []string{"b1"}},
		{"a1+:::v;//v=1,b/", "-r", []string{"a1"}},
		{"a1:::;a2:::;//a<1/", "+n", []string{"a2"}},
		{"a1+:::;b1:a::;//a/", "+n", []string{""}},
		// 6
		{"a1:::;a2:::;///a", "+u", []string{"a1"}},
		{"a1:::;a2:::;///a", "-n", []string{"a1", "a2"}},
		{"a2+:::;a1:::;a3:::;///a", "-c", []string{"a2"}},
		{"a2+:::;a1:::;a3:::;///a", "+c", []string{"a3"}},
		{"a2+:::;a1:::;a3:::;a4:::;///a<3,a>3", "-u", []string{"a3"}},
		{"a1:::;b1:::a;///a", "+n", []string{"a1b1"}},
		{"a1:::v;v1:::;v2+:::;///v<2", "+c", []string{"a1v2"}},
	} {
		wantChosen(t, c.doc, c.criteria, c.picks...)
		wantBestOf(t, c.doc, c.criteria, refAllValid(c.doc))
	}
}

func TestP8NoPickIsValid(t *testing.T) {
	for _, doc := range []string{
		"/a//", "///a", "/a>1//", "a1:b::;/a//", "a1:a>2::;/a//", "a1:b|c,a::;b1:a<9::;b2:d::;c1:d::;/a,b>2//",
		"a1+!::b:;b1+!:::;///", "a1+!:::;b1+!::a:;///", "a1::b:;b1:::;/a,b//", "a1::v:;b1:::v;/a,v//b",
		"a1+!:b::;///", "a1+!:::;//a/", "a1+^:::;a2:::;//a/", "a1+^:b::;///",
		"a1:::;/b//", "a1:::v;/v=1//", "a1:::;/a/a/", "a1:::v;/v/a/",
		"a1:::v;///v", "a2+:::;a1:::;///a<1", "a1:::;a2:::;///a<1,a>2", "a1:::;a2:::;/a=1,a=2//a", "a1+!:::;a2+!:::;///a", "a2+:::;//a=2/a",
		manyPacks(20) + "d", strings.TrimSuffix(manyPacks(20), "///") + "/a=1,a=9//a",
	} {
		for _, criteria := range append(eachCriterion(), "-r-n-c-u", "+u+c+n+r") {
			wantNotChosen(t, doc, criteria, api.ErrNone)
		}
	}
}

func TestP8NoPackages(t *testing.T) {
	for _, criteria := range append(eachCriterion(), "-r-n-c-u", "+r+r+r+r") {
		wantChosen(t, "///", criteria, "")
		wantChosen(t, "//a,b=2/", criteria, "")
		wantNotChosen(t, "/a//", criteria, api.ErrNone)
		wantNotChosen(t, "///a", criteria, api.ErrNone)
	}
}

func TestP8NoPickIsBetterThanAnother(t *testing.T) {
	for _, c := range []struct{ doc, criteria string }{
		{"a1:::;b1:::;c1:z::;///", "-r"},
		{"a1:::;b1:::;c1:z::;///", "+r-u+u"},
		{"a1+!:::;a2::b:;b1+!:::;///", "+r-n-c+c"},
		{"a1+^:::;a2:::;///", "-r+r-n+n"},
		{"a1:::v;b1:::v;c1::v=1:;/v//", "+u-r"},
	} {
		valid := refAllValid(c.doc)
		best, _ := refBest(c.doc, c.criteria, valid)
		if len(best) != len(valid) || len(valid) == 0 {
			t.Fatalf("the criteria tell picks apart: %q, %q", c.doc, c.criteria)
		}
		wantChosen(t, c.doc, c.criteria, valid...)
	}
}

// TestP8NothingMustChange asks for what is installed now, where that is valid: it alone changes nothing.
func TestP8NothingMustChange(t *testing.T) {
	wantChosen(t, "a1+:b::;a2:::;b1+!:::;b2+^:::;c1:::;/a//", "-c", "a1b1b2")
	wantChosen(t, "a1+:::;a2:::;///a", "-c-u", "a1")
	wantChosen(t, manyPacks(20), "-c", "")
	wantChosen(t, strings.ReplaceAll(manyPacks(20), ":::", "+:::"), "-c", strings.Join(refRead(manyPacks(20)).heads(), ""))
	d := dice{state: 83}
	times := 0
	for range 4000 {
		doc := d.sparseDocument()
		now := strings.Join(refRead(doc).now(), "")
		if refValid(doc, now) == 0 {
			times++
			wantChosen(t, doc, "-c"+d.criteria(d.below(4)), now)
		}
	}
	if times < 100 {
		t.Errorf("P8: what is installed now is valid in only %d of the thrown documents", times)
	}
}

func TestP8TheEmptyPick(t *testing.T) {
	wantChosen(t, "a1:::;b1:::;///", "-n", "")
	wantChosen(t, "a1:::;b1:::;///", "-c", "")
	wantChosen(t, "a1+:::;b1+:::;///", "+r", "")
	wantChosen(t, "a1+:::;b1+:::;//a,b/", "-r", "")
	wantChosen(t, "a1:z::;b1:a::;///", "+n+c", "")
	wantChosen(t, "a1+:z::;b1+:a::;c1:b::;///", "-r-c+n", "")
	wantChosen(t, strings.ReplaceAll(manyPacks(20), ":::", ":z::"), "+n", "")
}

// TestP8InTheOrderOfBytes has packages that stand in the document in other orders.
func TestP8InTheOrderOfBytes(t *testing.T) {
	wantChosen(t, "b2:::;a1:::;b1:::;a9:::;/a=9,b=1,a=1,b=2//", "-n", "a1a9b1b2")
	wantChosen(t, "z9:::;a9:::;z1:::;m5:::;a1:::;/z=9,z=1,a=9,a=1,m//", "-n", "a1a9m5z1z9")
	packs := strings.SplitAfter(strings.TrimSuffix(manyPacks(20), "///"), ";")
	slices.Reverse(packs)
	wantScored(t, strings.Join(packs, "")+"///", "+n", "3")
}

// TestP8MaxPacks has documents of MaxPacks packages of which the best pick is plain.
func TestP8MaxPacks(t *testing.T) {
	heads := strings.Split("g1 h1 i1 j1 k1 l1 m1 n1 o1 p1 q1 r1 s1 t1 u1 v1 w1 x1 y1 z1", " ")
	if len(heads) != api.MaxPacks {
		t.Fatalf("%d packages", len(heads))
	}
	all := strings.Join(heads, "")
	free, now := strings.Join(heads, ":::;")+":::;///", strings.Join(heads, "+:::;")+"+:::;///"
	for _, c := range []struct{ doc, criteria, pick string }{
		{free, "+n", all}, {free, "-n", ""}, {free, "+c", all}, {free, "-c", ""},
		{now, "-r", all}, {now, "+r", ""}, {now, "+c", ""}, {now, "-c", all},
		{free, "+n-c", all}, {now, "-r+c", all}, {now, "-n+u-r", all},
	} {
		wantChosen(t, c.doc, c.criteria, c.pick)
	}
	// Each needs the next one, so that all come or those from some place on.
	chain, ring := "", ""
	for i, head := range heads {
		next := heads[(i+1)%len(heads)][:1]
		ring += head + ":" + next + "::;"
		if i == len(heads)-1 {
			next = ""
		}
		chain += head + ":" + next + "::;"
	}
	wantChosen(t, chain+"/g//", "-n", all)
	wantChosen(t, chain+"/x//", "-n", "x1y1z1")
	wantChosen(t, chain+"//x/", "+n", "y1z1")
	wantChosen(t, ring+"/p//", "-n", all)
	wantChosen(t, ring+"//p/", "+n", "")
	wantNotChosen(t, ring+"/g/p/", "+n", api.ErrNone)
	// Each cannot stand beside the next one: every second one of the ring.
	rivals := strings.ReplaceAll(strings.ReplaceAll(ring, "::;", ":;"), "1:", "1::")
	wantScored(t, rivals+"///", "+n", "10")
	wantScored(t, rivals+"/g,j//", "+n", "9")
}

// pigeonPacks is a document with a name for each pigeon and a version for each hole. No two pigeons are in one hole, and each is to be installed.
func pigeonPacks(pigeons, holes int) string {
	names := strings.Split("abcdefghij"[:pigeons], "")
	text := ""
	for _, name := range names {
		for hole := 1; hole <= holes; hole++ {
			var others []string
			for _, other := range names {
				if other != name {
					others = append(others, fmt.Sprintf("%s=%d", other, hole))
				}
			}
			text += fmt.Sprintf("%s%d::%s:;", name, hole, strings.Join(others, ","))
		}
	}
	return text + "/" + strings.Join(names, ",") + "//"
}

func TestP8PigeonsAndHoles(t *testing.T) {
	for _, criteria := range append(eachCriterion(), "+c-u+n-r") {
		wantNotChosen(t, pigeonPacks(5, 4), criteria, api.ErrNone)
		wantNotChosen(t, pigeonPacks(4, 3), criteria, api.ErrNone)
		wantNotChosen(t, pigeonPacks(6, 3), criteria, api.ErrNone)
	}
	// In the greatest hole there is one pigeon, in the others no more than one each.
	wantScored(t, pigeonPacks(4, 5), "-u", "3")
	wantScored(t, pigeonPacks(4, 5), "+u", "4")
	wantScored(t, pigeonPacks(4, 4), "+u", "3")
	wantScored(t, pigeonPacks(4, 5), "-n-u", "4,3")
}

// TestP8ThrownDocuments tries all picks of each document, by each criterion alone and by more of them.
func TestP8ThrownDocuments(t *testing.T) {
	d := dice{state: 8}
	none, apart := 0, 0
	for range 2500 {
		doc := d.sparseDocument()
		valid := refAllValid(doc)
		if len(valid) == 0 {
			none++
		}
		for i, first := range eachCriterion() {
			criteria := first + d.criteria(d.below(4))
			wantBestOf(t, doc, first, valid)
			wantBestOf(t, doc, criteria, valid)
			best, _ := refBest(doc, criteria, valid)
			if i == 0 && len(best) < len(valid) {
				apart++
			}
		}
	}
	if none < 300 || apart < 300 {
		t.Errorf("P8: of the thrown documents %d have no valid pick, of %d the criteria tell picks apart", none, apart)
	}
}

// moved gives the names a to d of a document others.
func moved(doc string, by int) string {
	return strings.Map(func(r rune) rune {
		if r >= 'a' && r <= 'd' {
			return r + rune(by)
		}
		return r
	}, doc)
}

// joined lays documents that share no name into one. A pick of it is valid if its parts are, and its numbers are the sums of theirs; so a best pick of each part makes up a best one.
func joined(docs []string) string {
	var fields [4]string
	for _, doc := range docs {
		for i, field := range strings.Split(doc, "/") {
			if i > 0 && field != "" && fields[i] != "" {
				field = "," + field
			}
			fields[i] += field
		}
	}
	return strings.Join(fields[:], "/")
}

// TestP8ThrownDocumentsOfMaxPacks joins thrown documents, of each of which all picks are tried.
func TestP8ThrownDocumentsOfMaxPacks(t *testing.T) {
	d := dice{state: 88}
	var found, none int
	for found < 300 || none < 100 {
		criteria := d.criteria(1 + d.below(4))
		var docs []string
		sums := make([]int, len(criteria)/2)
		packs, can := 0, true
		for packs < api.MaxPacks && len(docs) < 6 {
			doc := d.sparseDocument()
			size := strings.Count(doc, ";")
			valid := refAllValid(doc)
			if size == 0 || packs+size > api.MaxPacks || len(valid) == 0 && d.below(20) > 0 {
				continue
			}
			packs += size
			docs = append(docs, moved(doc, 4*len(docs)))
			if len(valid) == 0 {
				can = false
				continue
			}
			_, score := refBest(doc, criteria, valid)
			for i, number := range strings.Split(score, ",") {
				n, _ := strconv.Atoi(number)
				sums[i] += n
			}
		}
		doc := joined(docs)
		if packs < api.MaxPacks || len(doc) > api.MaxText {
			continue
		}
		if !can {
			none++
			wantNotChosen(t, doc, criteria, api.ErrNone)
			continue
		}
		found++
		wantScored(t, doc, criteria, strings.Trim(strings.ReplaceAll(fmt.Sprint(sums), " ", ","), "[]"))
	}
}

func TestP8SameTextsAgainBehindOtherCalls(t *testing.T) {
	d := dice{state: 888}
	doc, criteria := "a1:::v;b1:::v;c1:::v;d1+:::;d2:::;/v//", "-n-r"
	first, errno := upkeep.Choose(doc, criteria)
	if errno != api.OK {
		t.Fatalf("P8: Choose(%q, %q) = %q, %d", doc, criteria, first, errno)
	}
	for range 500 {
		other := d.sparseDocument()
		ask(other, "")
		ask(d.spoiled(other), "a1")
		upkeep.Solve("ab;AB;", "a")
		upkeep.Choose(doc, d.criteria(1+d.below(4)))
		wantChosen(t, strings.Clone(doc), strings.Clone(criteria), first)
	}
}

func TestP8ErrorsInTheirOrder(t *testing.T) {
	badCriteria := []string{"", "-", "-x", "r", "-r-", "-r,-n", "-r-r-r-r-r", strings.Repeat("-r", 401), strings.Repeat("-r", 5000000)}
	for _, c := range []struct {
		doc   string
		errno api.Errno
	}{
		{strings.Repeat("/", 801), api.ErrLong},
		{ofLength(802), api.ErrLong},
		{"", api.ErrForm},
		{"a1:b::;/a/", api.ErrForm},
		{manyPacks(21), api.ErrMany},
		{manyPacks(21) + "z", api.ErrMany},
		{"a1:::;a1:::;/b//", api.ErrTwice},
	} {
		for _, criteria := range append([]string{"-r", "-r-n-c-u"}, badCriteria...) {
			wantNotChosen(t, c.doc, criteria, c.errno)
		}
	}
	for _, doc := range []string{"///", "a1:::;///", "a1:b::;/a//", "/a//"} {
		for _, criteria := range badCriteria {
			wantNotChosen(t, doc, criteria, api.ErrCriteria)
		}
	}
	wantNotChosen(t, ofLength(800), "-r", api.ErrNone)
}

// TestP8EveryByte lays every byte at each place of criteria.
func TestP8EveryByte(t *testing.T) {
	for b := range 256 {
		for at := range 8 {
			criteria := []byte("-r+n-c+u")
			criteria[at] = byte(b)
			can := "rncu"
			if at%2 == 0 {
				can = "-+"
			}
			if strings.IndexByte(can, byte(b)) < 0 {
				wantNotChosen(t, "a1:::;/a//", string(criteria), api.ErrCriteria)
			} else {
				wantChosen(t, "a1:::;/a//", string(criteria), "a1")
			}
		}
	}
}
