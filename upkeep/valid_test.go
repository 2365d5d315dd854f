package upkeep_test

import (
	"fmt"
	"strings"
	"testing"

	"upkeep/api"
	"upkeep/upkeep"
)

func wantValid(t *testing.T, doc, pick string, rule int) {
	t.Helper()
	n, errno := upkeep.Valid(doc, pick)
	if n != rule || errno != api.OK {
		t.Errorf("P5: Valid(%.120q, %.60q) = %d, %d, want %d, 0", doc, pick, n, errno, rule)
	}
}

func wantNoPick(t *testing.T, doc, pick string) {
	t.Helper()
	n, errno := upkeep.Valid(doc, pick)
	if n != 0 || errno != api.ErrPick {
		t.Errorf("P5: Valid(%.120q, %.60q) = %d, %d, want 0, ErrPick", doc, pick, n, errno)
	}
	text, errno := upkeep.Score(doc, "-r", pick)
	if text != "" || errno != api.ErrPick {
		t.Errorf("P6: Score(%.120q, \"-r\", %.60q) = %q, %d, want \"\", ErrPick", doc, pick, text, errno)
	}
}

func TestP5Examples(t *testing.T) {
	doc := "a1:b>2::;b1:::;b2:::;///"
	wantValid(t, doc, "a1", 1)
	wantValid(t, doc, "a1b1", 1)
	wantValid(t, doc, "a1b2", 0)
	wantValid(t, doc, "", 0)
	wantNoPick(t, doc, "b2a1")
	wantNoPick(t, doc, "b2b2")
	wantNoPick(t, doc, "c1")
	doc = "a1::a,v:v;b1:::v;///"
	wantValid(t, doc, "a1", 0)
	wantValid(t, doc, "a1b1", 2)
	doc = "a1+!:::;b1+^:::;b2:::;"
	wantValid(t, doc+"///", "a1b2", 0)
	wantValid(t, doc+"///", "a1", 3)
	wantValid(t, doc+"///", "b1", 3)
	wantValid(t, doc+"/a>2//", "a1b1", 4)
	wantValid(t, doc+"//b/", "a1b1", 5)
	wantValid(t, doc+"///b", "a1b1", 0)
	wantValid(t, doc+"///b", "a1b1b2", 6)
	wantValid(t, doc+"///b<1", "a1b2", 6)
}

// TestP5Fits asks for each version with each constraint of a version, by INSTALL and by REMOVE.
func TestP5Fits(t *testing.T) {
	for v := '1'; v <= '9'; v++ {
		for w := '1'; w <= '9'; w++ {
			for _, c := range []struct {
				sign string
				fits bool
			}{{"=", v == w}, {"<", v <= w}, {">", v >= w}} {
				install, remove := 4, 0
				if c.fits {
					install, remove = 0, 5
				}
				pick := fmt.Sprintf("a%c", v)
				wantValid(t, fmt.Sprintf("%s:::;/a%s%c//", pick, c.sign, w), pick, install)
				wantValid(t, fmt.Sprintf("%s:::;//a%s%c/", pick, c.sign, w), pick, remove)
				// Neither another name nor one that is only provided fits a version.
				wantValid(t, fmt.Sprintf("%s:::b;/b%s%c//", pick, c.sign, w), pick, 4)
			}
		}
	}
	wantValid(t, "a1:::;/a//", "a1", 0)
	wantValid(t, "a1:::;/b//", "a1", 4)
	wantValid(t, "a1:::b;/b//", "a1", 0)
	wantValid(t, "a1:::c,b,d;/b//", "a1", 0)
	wantValid(t, "a1:::c,d;/b//", "a1", 4)
	wantValid(t, "a1:::b;/a//", "a1", 0)
}

type validCase struct {
	doc, pick string
	rule      int
}

func TestP5Rules(t *testing.T) {
	for _, c := range []validCase{
		// 1: every need, by any of its constraints, by any package in the pick.
		{"a1:b,c::;b1:::;c1:::;///", "a1b1", 1},
		{"a1:b,c::;b1:::;c1:::;///", "a1c1", 1},
		{"a1:b,c::;b1:::;c1:::;///", "a1b1c1", 0},
		{"a1:b|c::;b1:::;c1:::;///", "a1", 1},
		{"a1:b|c::;b1:::;c1:::;///", "a1b1", 0},
		{"a1:b|c::;b1:::;c1:::;///", "a1c1", 0},
		{"a1:b|c,d::;b1:::;c1:::;d1:::;///", "a1c1", 1},
		{"a1:b|c,d::;b1:::;c1:::;d1:::;///", "a1d1", 1},
		{"a1:b|c,d::;b1:::;c1:::;d1:::;///", "a1c1d1", 0},
		{"a1:a::;///", "a1", 0},
		{"a1:a>2::;a2:::;///", "a1", 1},
		{"a1:a>2::;a2:::;///", "a1a2", 0},
		{"a1:v::v;///", "a1", 0},
		{"a1:v::;b1:::v;///", "a1", 1},
		{"a1:v::;b1:::v;///", "a1b1", 0},
		{"a1:v<9::;b1:::v;///", "a1b1", 1},
		{"a1:::;b1:z::;///", "a1", 0},
		{"a1:::;b1:z::;///", "a1b1", 1},
		// 2: a conflict with another package, ahead of it or behind it, by name, version or what it provides.
		{"a1::b:;b1:::;///", "a1b1", 2},
		{"a1:::;b1::a:;///", "a1b1", 2},
		{"a1::b>2:;b1:::;b2:::;///", "a1b1", 0},
		{"a1::b>2:;b1:::;b2:::;///", "a1b2", 2},
		{"a1::b>2:;b1:::;b2:::;///", "a1b1b2", 2},
		{"a1::c,b:;b1:::;///", "a1b1", 2},
		{"a1::v:;b1:::v;///", "a1b1", 2},
		{"a1::v=1:;b1:::v;///", "a1b1", 0},
		{"a1::a:;///", "a1", 0},
		{"a1::a=1:;a2:::;///", "a1a2", 0},
		{"a1::a:;a2:::;///", "a1a2", 2},
		{"a1:::;a2::a:;///", "a1a2", 2},
		{"a1::v:v;///", "a1", 0},
		{"a1::v:v;b1::v:v;///", "a1b1", 2},
		{"a1::a,b:b;b1::b:;///", "b1", 0},
		{"a1::b:;b1:::;///", "b1", 0},
		// 3: +! wants its version, +^ its name, + nothing.
		{"a1+!:::;a2:::;///", "a1", 0},
		{"a1+!:::;a2:::;///", "a2", 3},
		{"a1+!:::;a2:::;///", "a1a2", 0},
		{"a1+!:::;///", "", 3},
		{"a1+^:::;a2:::;///", "a1", 0},
		{"a1+^:::;a2:::;///", "a2", 0},
		{"a1+^:::;a2:::;///", "", 3},
		{"a1+^:::;b1:::a;///", "b1", 3},
		{"a1+!:::;b1:::a;///", "b1", 3},
		{"b1:::;c1:::;a1+!:::;d1+^:::;///", "a1", 3},
		{"b1:::;c1:::;a1+!:::;d1+^:::;///", "d1", 3},
		{"b1:::;c1:::;a1+!:::;d1+^:::;///", "a1d1", 0},
		{"a1+:::;a2+:::;///", "", 0},
		// 4: every constraint of INSTALL.
		{"a1:::;b1:::v;/a,v//", "a1", 4},
		{"a1:::;b1:::v;/a,v//", "b1", 4},
		{"a1:::;b1:::v;/a,v//", "a1b1", 0},
		{"a1:::;b1:::v;/v=1//", "a1b1", 4},
		{"/a//", "", 4},
		{"a1:::;a2:::;/a=1,a=2//", "a1a2", 0},
		// 5: no constraint of REMOVE.
		{"a1:::;b1:::v;//c,v/", "a1", 0},
		{"a1:::;b1:::v;//c,v/", "b1", 5},
		{"a1:::;b1:::v;//c,v/", "a1b1", 5},
		{"a1:::;b1:::v;//v>1/", "a1b1", 0},
		{"a1:::;a2:::;//a<1/", "a2", 0},
		{"a1:::;a2:::;//a<1/", "a1a2", 5},
		// 6: exactly one with the name, it fits, and is not below what is there now.
		{"a1:::;a2:::;///a", "", 6},
		{"a1:::;a2:::;///a", "a1", 0},
		{"a1:::;a2:::;///a", "a1a2", 6},
		{"a1:::;a2:::;///a=2", "a1", 6},
		{"a1:::;a2:::;///a=2", "a2", 0},
		{"a1:::;a2:::;///a<1", "a2", 6},
		{"a1:::;a2:::;///a=2", "a1a2", 6},
		{"a1:::;a2+:::;a3:::;///a", "a1", 6},
		{"a1:::;a2+:::;a3:::;///a", "a2", 0},
		{"a1:::;a2+:::;a3:::;///a", "a3", 0},
		{"a1:::;a2+!:::;a3:::;///a>1", "a2", 0},
		{"a1:::;a2+^:::;a3:::;///a>1", "a1", 6},
		{"a3+:::;a1+:::;a2:::;///a", "a1", 6},
		{"a3+:::;a1+:::;a2:::;///a", "a2", 6},
		{"a3+:::;a1+:::;a2:::;///a", "a3", 0},
		{"a1:::;b9+:::;///a", "a1", 0},
		{"a1:::;b9+:::a;///a", "a1b9", 0},
		{"a1:::v;///v", "a1", 6},
		{"a1:::v;v2:::;///v", "a1v2", 0},
		{"a1:::;b1+:::;b2:::;///a,b=2", "a1b1", 6},
		{"a1:::;b1+:::;b2:::;///a,b=2", "b2", 6},
		{"a1:::;b1+:::;b2:::;///a,b=2", "a1b2", 0},
		{"a1:::;a2:::;///a>1,a<1", "a2", 6},
		{"a1:::;a2:::;///a>1,a<1", "a1", 0},
		{"///a", "", 6},
	} {
		wantValid(t, c.doc, c.pick, c.rule)
	}
}

// TestP5TheFirstRuleThatDoesNotHold breaks all six rules at once, then all but the first, and so on.
func TestP5TheFirstRuleThatDoesNotHold(t *testing.T) {
	doc := "a1:z::;b1::c:;c1:::;d1+!:::;"
	wantValid(t, doc+"/y/c/x", "a1b1c1", 1)
	wantValid(t, doc+"/y/c/x", "b1c1", 2)
	wantValid(t, doc+"/y/c/x", "c1", 3)
	wantValid(t, doc+"/y/c/x", "c1d1", 4)
	wantValid(t, doc+"/c/c/x", "c1d1", 5)
	wantValid(t, doc+"/c/b/x", "c1d1", 6)
	wantValid(t, doc+"/c/b/c", "c1d1", 0)
	wantValid(t, "a1+!:::;/y/a/x", "a1", 4)
	wantValid(t, "a1+!:::;/a/a/x", "a1", 5)
}

func TestP5TheEmptyPickAndAllPackages(t *testing.T) {
	wantValid(t, "///", "", 0)
	wantValid(t, "a1:z:a:;///", "", 0)
	wantValid(t, "a1+!:::;///", "", 3)
	wantValid(t, "a1:::;/a//", "", 4)
	wantValid(t, "a1:::;//a/", "", 0)
	wantValid(t, "a1:::;///a", "", 6)
	wantValid(t, manyPacks(20), "", 0)
	all := strings.Join(refRead(manyPacks(20)).heads(), "")
	if len(all) != 40 {
		t.Fatalf("%d bytes for 20 packages", len(all))
	}
	wantValid(t, manyPacks(20), all, 0)
	wantValid(t, manyPacks(20)+"a", all, 6)
	wantValid(t, "z9:a::;a1:z::;m5:a,m,z::;///", "a1m5z9", 0)
	wantNoPick(t, manyPacks(20), all+"c3")
	wantNoPick(t, manyPacks(20), all+"c2")
	wantNoPick(t, manyPacks(20), all+all)
}

func TestP5NoPick(t *testing.T) {
	doc := "b2:::;a1:::;c1:::;b1:::;a3:::;///"
	for _, pick := range []string{
		"a", "1", "a1b", "a1b1c", "1a", ",", "a1,b1", "a1 b1", " a1", "a1 ", "a1\n", "a1\x00", "\x00\x00", "A1",
		"b1a1", "a3a1", "b2b1", "a1b2b1", "a1c1b1", "b1b2a3", "c1a1",
		"a1a1", "a1a3a3", "a1b1b1c1", "b1a1b1",
		"a2", "c2", "d1", "a1a2", "a1a2a3", "a0", "z9", "a1z1", "a1a3b1b2c1c2",
		"b2a1c1b1a3",
	} {
		wantNoPick(t, doc, pick)
	}
	wantValid(t, doc, "a1a3b1b2c1", 0)
	wantNoPick(t, "///", "a1")
	wantNoPick(t, "a1:::b;///", "b1")
}

// TestP5EveryTwoBytes tells that the packages' names alone, and no other two bytes, are a pick.
func TestP5EveryTwoBytes(t *testing.T) {
	doc := "a1:::;b2:::;///"
	for i := range 256 * 256 {
		pick := string([]byte{byte(i / 256), byte(i % 256)})
		if pick == "a1" || pick == "b2" {
			wantValid(t, doc, pick, 0)
		} else {
			wantNoPick(t, doc, pick)
		}
		if pick == "b2" {
			wantValid(t, doc, "a1"+pick, 0)
		} else {
			wantNoPick(t, doc, "a1"+pick)
		}
	}
}

func TestP5LongPick(t *testing.T) {
	for _, n := range []int{20, 399, 400, 401, 402, 5000000} {
		wantNoPick(t, "a1:::;///", strings.Repeat("a1", n))
		wantNoPick(t, "a1:::;///", strings.Repeat("a1", n)+"a")
		wantNoPick(t, "///", strings.Repeat(" ", n))
	}
}

func TestP5Errors(t *testing.T) {
	for _, c := range []struct {
		doc   string
		errno api.Errno
	}{
		{strings.Repeat("/", 801), api.ErrLong},
		{ofLength(802), api.ErrLong},
		{"", api.ErrForm},
		{"a1:::;//", api.ErrForm},
		{manyPacks(21), api.ErrMany},
		{"a1:::;a1:::;///", api.ErrTwice},
	} {
		for _, pick := range []string{"", "a1", "a1a1", "a", strings.Repeat("a1", 401)} {
			n, errno := upkeep.Valid(c.doc, pick)
			if n != 0 || errno != c.errno {
				t.Errorf("P5: Valid(%.60q, %.60q) = %d, %d, want 0, %d", c.doc, pick, n, errno, c.errno)
			}
		}
	}
}

// TestP5ThrownDocuments asks for every pick of each document.
func TestP5ThrownDocuments(t *testing.T) {
	d := dice{state: 5}
	var seen [7]int
	for range 4000 {
		doc := d.sparseDocument()
		for _, pick := range refRead(doc).allPicks() {
			rule := refValid(doc, pick)
			seen[rule]++
			wantValid(t, doc, pick, rule)
		}
	}
	for rule, times := range seen {
		if times < 1000 {
			t.Errorf("P5: only %d of the thrown picks have %d as the answer", times, rule)
		}
	}
}

// TestP5ThrownPicks asks for texts that are almost picks.
func TestP5ThrownPicks(t *testing.T) {
	d := dice{state: 55}
	for range 20000 {
		doc := d.sparseDocument()
		all := refRead(doc).allPicks()
		pick := d.spoiled(all[d.below(len(all))])
		isPick := false
		for _, p := range all {
			isPick = isPick || p == pick
		}
		if isPick {
			wantValid(t, doc, pick, refValid(doc, pick))
		} else {
			wantNoPick(t, doc, pick)
		}
	}
}
