package upkeep_test

import (
	"strings"
	"testing"

	"upkeep/api"
	"upkeep/upkeep"
)

func wantCheck(t *testing.T, doc string, errno api.Errno, place int) {
	t.Helper()
	e, at := upkeep.Check(doc)
	if e != errno || at != place {
		t.Errorf("P3: Check(%.90q) = %d, %d, want %d, %d", doc, e, at, errno, place)
	}
}

func TestP3Examples(t *testing.T) {
	wantCheck(t, "///", api.OK, 0)
	wantCheck(t, "a1+:b>2|c:d:e;b2:::;/b/c/a>1", api.OK, 0)
	wantCheck(t, "", api.ErrForm, 0)
	wantCheck(t, "a1:::;//", api.ErrForm, 8)
	wantCheck(t, "a0:::;///", api.ErrForm, 1)
	wantCheck(t, "a1!:::;///", api.ErrForm, 2)
	wantCheck(t, "a1:b,:::;///", api.ErrForm, 5)
	wantCheck(t, "a1:::;a2:::;a1:::;///", api.ErrTwice, 2)
}

func TestP3Documents(t *testing.T) {
	for _, doc := range []string{
		"a1:::;///", "z9:::;///", "a1+:::;///", "a1+!:::;///", "a1+^:::;///",
		"a1:b::;///", "a1:a=1::;///", "a1:z<9|z>1|z=5,b,c|c::;///",
		"a1::b:;///", "a1::a=1,z<9,z>1,b:;///", "a1:::z;///", "a1:::a,b,z;///",
		"/a//", "//a/", "///a", "/a=1,b<2,c>3/d,e/z>9,z",
		"a1:b,b,b|b|b:b,b:b,b;/a,a/b,b/c,c",
		"a1:::;b1:::;a2:::;b2:::;///",
	} {
		wantCheck(t, doc, api.OK, 0)
	}
}

const (
	names    = "abcdefghijklmnopqrstuvwxyz"
	versions = "123456789"
)

// places are the places of the form: a text that leads there, the bytes that can stand next, and whether the text may end there.
var places = []struct {
	lead string
	next string
	end  bool
}{
	{"", names + "/", false},
	{"a", versions, false},
	{"a1", "+:", false},
	{"a1+", "!^:", false},
	{"a1+!", ":", false},
	{"a1+^", ":", false},
	{"a1:", names + ":", false},
	{"a1+:", names + ":", false},
	{"a1+!:", names + ":", false},
	{"a1+^:", names + ":", false},
	{"a1:b", "=<>|,:", false},
	{"a1:b=", versions, false},
	{"a1:b<", versions, false},
	{"a1:b>", versions, false},
	{"a1:b=1", "|,:", false},
	{"a1:b|", names, false},
	{"a1:b|c", "=<>|,:", false},
	{"a1:b|c<", versions, false},
	{"a1:b|c<9", "|,:", false},
	{"a1:b,", names, false},
	{"a1:b,c", "=<>|,:", false},
	{"a1:b,c>3|", names, false},
	{"a1::", names + ":", false},
	{"a1:b:", names + ":", false},
	{"a1:b=1:", names + ":", false},
	{"a1::b", "=<>,:", false},
	{"a1::b=", versions, false},
	{"a1::b<", versions, false},
	{"a1::b>", versions, false},
	{"a1::b<1", ",:", false},
	{"a1::b,", names, false},
	{"a1::b,c", "=<>,:", false},
	{"a1:::", names + ";", false},
	{"a1::b:", names + ";", false},
	{"a1:::b", ",;", false},
	{"a1:::b,", names, false},
	{"a1:::b,c", ",;", false},
	{"a1:::;", names + "/", false},
	{"a1:::b;", names + "/", false},
	{"a1:::;b", versions, false},
	{"a1:::;b2", "+:", false},
	{"/", names + "/", false},
	{"a1:::;/", names + "/", false},
	{"/a", "=<>,/", false},
	{"/a=", versions, false},
	{"/a=1", ",/", false},
	{"/a,", names, false},
	{"/a,b", "=<>,/", false},
	{"//", names + "/", false},
	{"/a/", names + "/", false},
	{"//a", "=<>,/", false},
	{"//a<", versions, false},
	{"//a<1", ",/", false},
	{"//a,", names, false},
	{"//a,b", "=<>,/", false},
	{"///", names, true},
	{"//a/", names, true},
	{"///a", "=<>,", true},
	{"///a>", versions, false},
	{"///a>1", ",", true},
	{"///a,", names, false},
	{"///a,b", "=<>,", true},
}

func TestP3EndAtEachPlace(t *testing.T) {
	for _, p := range places {
		if p.end {
			wantCheck(t, p.lead, api.OK, 0)
		} else {
			wantCheck(t, p.lead, api.ErrForm, len(p.lead))
		}
	}
}

func TestP3EveryByteAtEachPlace(t *testing.T) {
	for _, p := range places {
		for b := range 256 {
			text := p.lead + string([]byte{byte(b)})
			if strings.IndexByte(p.next, byte(b)) < 0 {
				wantCheck(t, text, api.ErrForm, len(p.lead))
				wantCheck(t, text+":::;///", api.ErrForm, len(p.lead))
				wantCheck(t, text+"?", api.ErrForm, len(p.lead))
				continue
			}
			e, at := upkeep.Check(text)
			if e != api.OK && (e != api.ErrForm || at != len(text)) {
				t.Errorf("P3: Check(%q) = %d, %d, but its last byte can stand there", text, e, at)
			}
			wantCheck(t, text+"?", api.ErrForm, len(text))
		}
	}
}

func TestP3ThrownTexts(t *testing.T) {
	d := dice{state: 3}
	for range 20000 {
		doc := d.document()
		wantCheck(t, doc, api.OK, 0)
		text := d.spoiled(doc)
		errno, place := upkeep.Check(text)
		if formOf.MatchString(text) {
			// A spoiled head may have become that of another package.
			if errno != api.OK && errno != api.ErrTwice {
				t.Errorf("P3: Check(%q) = %d, %d, but it has the form", text, errno, place)
			}
			continue
		}
		if errno != api.ErrForm {
			t.Errorf("P3: Check(%q) = %d, %d, but it has not the form", text, errno, place)
			continue
		}
		// What stands ahead of the place is no fault, and what follows it does not matter.
		wantCheck(t, text[:place]+"?", api.ErrForm, place)
		if place < len(text) {
			wantCheck(t, text[:place+1], api.ErrForm, place)
		}
	}
}

func TestP3Long(t *testing.T) {
	wantCheck(t, ofLength(api.MaxText), api.OK, 0)
	wantCheck(t, ofLength(api.MaxText)+"a", api.ErrLong, 0)
	wantCheck(t, ofLength(api.MaxText+2), api.ErrLong, 0)
	wantCheck(t, strings.Repeat("/", api.MaxText), api.ErrForm, 3)
	wantCheck(t, strings.Repeat("/", api.MaxText+1), api.ErrLong, 0)
	wantCheck(t, "/"+strings.Repeat("a,", 399)+"a", api.ErrForm, 800)
	wantCheck(t, "/"+strings.Repeat("a,", 400), api.ErrLong, 0)
	wantCheck(t, strings.Repeat("a", 9000000), api.ErrLong, 0)
	if api.MaxText != 800 {
		t.Errorf("MaxText is %d", api.MaxText)
	}
}

func TestP3Many(t *testing.T) {
	if api.MaxPacks != 20 {
		t.Errorf("MaxPacks is %d", api.MaxPacks)
	}
	wantCheck(t, manyPacks(1), api.OK, 0)
	wantCheck(t, manyPacks(19), api.OK, 0)
	wantCheck(t, manyPacks(20), api.OK, 0)
	wantCheck(t, manyPacks(21), api.ErrMany, 0)
	wantCheck(t, manyPacks(132), api.ErrMany, 0)
}

func TestP3Twice(t *testing.T) {
	wantCheck(t, "a1:::;a1:::;///", api.ErrTwice, 1)
	wantCheck(t, "a1+!:::;a1:b:c:d;///", api.ErrTwice, 1)
	wantCheck(t, "a1:::;b1:::;b1:::;a1:::;///", api.ErrTwice, 2)
	wantCheck(t, "a1:::;b1:::;a1:::;b1:::;///", api.ErrTwice, 2)
	wantCheck(t, "a1:::;a1:::;a1:::;///", api.ErrTwice, 1)
	wantCheck(t, "a1:::;a2:::;b1:::;b2:::;b2:::;///", api.ErrTwice, 4)
	wantCheck(t, strings.Repeat("a1:::;", 20)+"///", api.ErrTwice, 1)
	wantCheck(t, strings.TrimSuffix(manyPacks(19), "///")+"a1:::;///", api.ErrTwice, 19)
	wantCheck(t, strings.TrimSuffix(manyPacks(19), "///")+"c1:::;///", api.ErrTwice, 19)
	wantCheck(t, "a1:::a;a2:a=1:a=1:a;///", api.OK, 0)
}
