package upkeep_test

import (
	"strings"
	"testing"

	"upkeep/api"
	"upkeep/upkeep"
)

func wantScore(t *testing.T, doc, criteria, pick, want string) {
	t.Helper()
	text, errno := upkeep.Score(doc, criteria, pick)
	if text != want || errno != api.OK {
		t.Errorf("P6: Score(%.120q, %q, %.60q) = %q, %d, want %q, 0", doc, criteria, pick, text, errno, want)
	}
}

func wantNoScore(t *testing.T, doc, criteria, pick string, want api.Errno) {
	t.Helper()
	text, errno := upkeep.Score(doc, criteria, pick)
	if text != "" || errno != want {
		t.Errorf("P6: Score(%.60q, %.60q, %.60q) = %q, %d, want \"\", %d", doc, criteria, pick, text, errno, want)
	}
}

func TestP6Examples(t *testing.T) {
	doc := "a1+:::;b1+:::;b2:::;c1:::;///"
	wantScore(t, doc, "-r-n-c-u", "b1c1", "1,1,2,1")
	wantScore(t, doc, "+u", "b1b2", "0")
	wantScore(t, doc, "-c", "a1b1", "0")
}

func TestP6EachCriterion(t *testing.T) {
	for _, c := range []struct{ doc, of, pick, want string }{
		// Removed: a name of which something is in NOW, by any mark, and nothing in the pick.
		{"a1+:::;a2:::;b1+:::;///", "r", "", "2"},
		{"a1+:::;a2:::;b1+:::;///", "r", "a1", "1"},
		{"a1+:::;a2:::;b1+:::;///", "r", "a2", "1"},
		{"a1+:::;a2:::;b1+:::;///", "r", "a2b1", "0"},
		{"a1+:::;a2+:::;///", "r", "", "1"},
		{"a1+:::;a2+:::;///", "r", "a2", "0"},
		{"a1+!:::;b1+^:::;c1+:::;d1:::;///", "r", "", "3"},
		{"a1+:::;b1:::a;///", "r", "b1", "1"},
		{"a1+:::v;///", "r", "", "1"},
		// New: a name of which something is in the pick and nothing in NOW.
		{"a1+:::;a2:::;b1:::;b2:::;///", "n", "", "0"},
		{"a1+:::;a2:::;b1:::;b2:::;///", "n", "a1a2", "0"},
		{"a1+:::;a2:::;b1:::;b2:::;///", "n", "a2b1", "1"},
		{"a1+:::;a2:::;b1:::;b2:::;///", "n", "b1b2", "1"},
		{"a1:::;b1:::;c1:::;///", "n", "a1b1c1", "3"},
		{"a1:::v,w;///", "n", "a1", "1"},
		{"a1+:::v;v1:::;///", "n", "a1v1", "1"},
		// Changed: a name with other versions in the pick than in NOW.
		{"a1+:::;a2+:::;a3:::;b1:::;///", "c", "a1a2", "0"},
		{"a1+:::;a2+:::;a3:::;b1:::;///", "c", "a1", "1"},
		{"a1+:::;a2+:::;a3:::;b1:::;///", "c", "", "1"},
		{"a1+:::;a2+:::;a3:::;b1:::;///", "c", "a1a3", "1"},
		{"a1+:::;a2+:::;a3:::;b1:::;///", "c", "a1a2a3", "1"},
		{"a1+:::;a2+:::;a3:::;b1:::;///", "c", "a1a2a3b1", "2"},
		{"a1+:::;a2+:::;a3:::;b1:::;///", "c", "a1a2b1", "1"},
		{"a1+!:::;b9+^:::;///", "c", "", "2"},
		{"a9+:::;a8:::;///", "c", "a8a9", "1"},
		{"a9:::;///", "c", "a9", "1"},
		{"a1:::v;///", "c", "a1", "1"},
		// Not up to date: a name that is in the pick, but not by the greatest version of the document.
		{"a1+:::;a3:::;a2:::;b1:::;///", "u", "", "0"},
		{"a1+:::;a3:::;a2:::;b1:::;///", "u", "a1", "1"},
		{"a1+:::;a3:::;a2:::;b1:::;///", "u", "a1a2", "1"},
		{"a1+:::;a3:::;a2:::;b1:::;///", "u", "a3", "0"},
		{"a1+:::;a3:::;a2:::;b1:::;///", "u", "a1a2a3b1", "0"},
		{"a1:::;a2:::;b1:::;b2:::;///", "u", "a1b1", "2"},
		{"a1:::;a2:::;b1:::;b2:::;///", "u", "a1b2", "1"},
		{"a1:::;b2:::a;///", "u", "a1", "0"},
		{"a8:::;a9:::;///", "u", "a8", "1"},
		{"a1:::;z9+:::;z8:::;///", "u", "a1z8", "1"},
	} {
		wantScore(t, c.doc, "-"+c.of, c.pick, c.want)
		wantScore(t, c.doc, "+"+c.of, c.pick, c.want)
	}
}

func TestP6NumbersInTheOrderOfTheCriteria(t *testing.T) {
	doc := "a1+:::;b1+:::;c1+:::;d1:::;d2:::;e1:::;///"
	for _, c := range []struct{ criteria, want string }{
		{"-r", "3"}, {"+n", "2"}, {"-c", "5"}, {"+u", "1"},
		{"-r-n", "3,2"}, {"-n-r", "2,3"}, {"+c+u", "5,1"}, {"-u+c", "1,5"},
		{"-r-n-c-u", "3,2,5,1"}, {"+u+c+n+r", "1,5,2,3"}, {"-c+c-c", "5,5,5"}, {"+r+r+r+r", "3,3,3,3"},
	} {
		wantScore(t, doc, c.criteria, "d1e1", c.want)
	}
}

func TestP6ThePickNeedNotBeValid(t *testing.T) {
	doc := "a1:z:b:;b1:::;c1+!:::;/y/a/x"
	for pick, rule := range map[string]int{"a1": 1, "b1": 3, "": 3, "c1": 4} {
		wantValid(t, doc, pick, rule)
	}
	wantScore(t, doc, "-r-n-c-u", "", "1,0,1,0")
	wantScore(t, doc, "-r-n-c-u", "a1", "1,1,2,0")
	wantScore(t, doc, "-r-n-c-u", "a1b1", "1,2,3,0")
	wantScore(t, doc, "-r-n-c-u", "a1b1c1", "0,2,2,0")
}

func TestP6TheEmptyPickAndAllPackages(t *testing.T) {
	wantScore(t, "///", "-r-n-c-u", "", "0,0,0,0")
	wantScore(t, manyPacks(20), "-r-n-c-u", "", "0,0,0,0")
	all := strings.Join(refRead(manyPacks(20)).heads(), "")
	wantScore(t, manyPacks(20), "-r-n-c-u", all, "0,3,3,0")
	// Twenty names, so that numbers of two digits come.
	heads := strings.Split("g1 h1 i1 j1 k1 l1 m1 n1 o1 p1 q1 r1 s1 t1 u1 v1 w1 x1 y1 z1", " ")
	all = strings.Join(heads, "")
	wantScore(t, strings.Join(heads, ":::;")+":::;///", "-r-n-c-u", all, "0,20,20,0")
	wantScore(t, strings.Join(heads, "+:::;")+"+:::;///", "-r-n-c-u", all, "0,0,0,0")
	wantScore(t, strings.Join(heads, "+:::;")+"+:::;///", "-r-n-c-u", "", "20,0,20,0")
}

func TestP6HowManyCriteria(t *testing.T) {
	if api.MaxCriteria != 4 {
		t.Errorf("MaxCriteria is %d", api.MaxCriteria)
	}
	wantNoScore(t, "///", "", "", api.ErrCriteria)
	wantScore(t, "///", "-r", "", "0")
	wantScore(t, "///", "-r-r-r", "", "0,0,0")
	wantScore(t, "///", "-r-r-r-r", "", "0,0,0,0")
	wantNoScore(t, "///", "-r-r-r-r-", "", api.ErrCriteria)
	wantNoScore(t, "///", "-r-r-r-r-r", "", api.ErrCriteria)
	for _, n := range []int{6, 128, 256, 400, 401, 5000000} {
		wantNoScore(t, "///", strings.Repeat("-r", n), "", api.ErrCriteria)
	}
}

func TestP6NoCriteria(t *testing.T) {
	for _, criteria := range []string{
		"-", "+", "r", "-r-", "-rn", "r-", "rn", "--", "++", "-+", "rr", "-r,-n", "-r -n", "- r", " -r", "-r ", "-r\n", "-R", "-x", "-x-r", "-r-x", "-r-n-c-x", "-r-n-cu-",
		"=r", "-r=n", "-a1", "\x00\x00", "-r\x00", "-r\x00\x00", "−r",
	} {
		wantNoScore(t, "a1:::;///", criteria, "a1", api.ErrCriteria)
	}
}

// TestP6EveryByte lays every byte at each place of criteria.
func TestP6EveryByte(t *testing.T) {
	for b := range 256 {
		for at := range 8 {
			criteria := []byte("-r+n-c+u")
			criteria[at] = byte(b)
			can := "rncu"
			if at%2 == 0 {
				can = "-+"
			}
			if strings.IndexByte(can, byte(b)) < 0 {
				wantNoScore(t, "///", string(criteria), "", api.ErrCriteria)
			} else {
				wantScore(t, "///", string(criteria), "", "0,0,0,0")
			}
		}
	}
}

func TestP6ErrorsInTheirOrder(t *testing.T) {
	badDocs := []struct {
		doc   string
		errno api.Errno
	}{
		{strings.Repeat("/", 801), api.ErrLong},
		{"", api.ErrForm},
		{"a1:::;//", api.ErrForm},
		{manyPacks(21), api.ErrMany},
		{"a1:::;a1:::;///", api.ErrTwice},
	}
	badCriteria := []string{"", "-", "-x", "-r-r-r-r-r", strings.Repeat("-r", 401)}
	badPicks := []string{"a", "a2", "a1a1", "b1a1", strings.Repeat("a1", 401)}
	for _, c := range badDocs {
		for _, criteria := range append([]string{"-r"}, badCriteria...) {
			for _, pick := range append([]string{"", "a1"}, badPicks...) {
				wantNoScore(t, c.doc, criteria, pick, c.errno)
			}
		}
	}
	doc := "a1:::;b1:::;///"
	for _, criteria := range badCriteria {
		for _, pick := range append([]string{"", "a1"}, badPicks...) {
			wantNoScore(t, doc, criteria, pick, api.ErrCriteria)
		}
	}
	for _, pick := range badPicks {
		wantNoScore(t, doc, "-r-n-c-u", pick, api.ErrPick)
	}
}

func TestP6ThrownDocuments(t *testing.T) {
	d := dice{state: 6}
	for range 2000 {
		doc := d.document()
		for _, pick := range refRead(doc).allPicks() {
			criteria := ""
			for range 1 + d.below(4) {
				criteria += d.pick("-+") + d.pick("rncu")
			}
			wantScore(t, doc, criteria, pick, refScore(doc, criteria, pick))
		}
	}
}
