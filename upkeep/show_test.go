package upkeep_test

import (
	"slices"
	"strings"
	"testing"

	"upkeep/api"
	"upkeep/upkeep"
)

func wantShow(t *testing.T, doc, want string) {
	t.Helper()
	text, errno := upkeep.Show(doc)
	if text != want || errno != api.OK {
		t.Errorf("P4: Show(%.120q) = %.120q, %d, want %.120q", doc, text, errno, want)
	}
}

func TestP4Show(t *testing.T) {
	for _, c := range []struct{ doc, want string }{
		{"b2+:a<2|a|a,a:c,b:;a1:::;//b,a,b/", "a1:::;b2+:a,a|a<2:b,c:;//a,b/"},
		{"b2+:a|a:c,b:;a1:::;//b,a,b/", "a1:::;b2+:a:b,c:;//a,b/"},
		{"///", "///"},
		{"/a/b/c", "/a/b/c"},
		{"b1:::;a2:::;a1:::;///", "a1:::;a2:::;b1:::;///"},
		{"b1:z:z:z;a9+!:::;a1+^:::;c1+:::;///", "a1+^:::;a9+!:::;b1:z:z:z;c1+:::;///"},
		{"a1:c|b|a::;///", "a1:a|b|c::;///"},
		{"a1:b|b|b::;///", "a1:b::;///"},
		{"a1:b>1|b=1|b<1|b::;///", "a1:b|b<1|b=1|b>1::;///"},
		{"a1:b=2|b=1|b=2::;///", "a1:b=1|b=2::;///"},
		{"a1:b|a,a|b::;///", "a1:a|b::;///"},
		{"a1:b|a,b,a::;///", "a1:a,a|b,b::;///"},
		{"a1:a|b,a<1|b,a<1,a::;///", "a1:a,a<1,a<1|b,a|b::;///"},
		{"a1:a|c,a|b|c,a|b::;///", "a1:a|b,a|b|c,a|c::;///"},
		{"a1::c,b>2,b,b<2,c,b=2:;///", "a1::b,b<2,b=2,b>2,c:;///"},
		{"a1:::c,b,a,b,c;///", "a1:::a,b,c;///"},
		{"/b,a,b>1,b/d,c,d/f,e=2,e=1,f", "/a,b,b>1/c,d/e=1,e=2,f"},
	} {
		wantShow(t, c.doc, c.want)
		wantShow(t, c.want, c.want)
	}
}

func TestP4Limits(t *testing.T) {
	wantShow(t, ofLength(api.MaxText), "/a//")
	wantShow(t, "a1:"+strings.Repeat("c|b,", 197)+"a::;///", "a1:a,b|c::;///")
	wantShow(t, manyPacks(20), manyPacks(20))
	packs := strings.SplitAfter(strings.TrimSuffix(manyPacks(20), "///"), ";")
	slices.Reverse(packs)
	wantShow(t, strings.Join(packs, "")+"///", manyPacks(20))
}

func TestP4Errors(t *testing.T) {
	for _, c := range []struct {
		doc   string
		errno api.Errno
	}{
		{strings.Repeat("/", 801), api.ErrLong},
		{ofLength(802), api.ErrLong},
		{"", api.ErrForm},
		{"a1:::;//", api.ErrForm},
		{"///?", api.ErrForm},
		{manyPacks(21), api.ErrMany},
		{"a1:::;a1:::;///", api.ErrTwice},
	} {
		text, errno := upkeep.Show(c.doc)
		if text != "" || errno != c.errno {
			t.Errorf("P4: Show(%.60q) = %q, %d, want \"\", %d", c.doc, text, errno, c.errno)
		}
	}
}

// sorted takes a list apart and lays it together again.
func sorted(list, between string) string {
	parts := strings.Split(list, between)
	slices.Sort(parts)
	return strings.Join(slices.Compact(parts), between)
}

// usualForm is P4 done on the text itself.
func usualForm(doc string) string {
	fields := strings.Split(doc, "/")
	packs := strings.SplitAfter(fields[0], ";")
	packs = packs[:len(packs)-1]
	for i, p := range packs {
		parts := strings.Split(strings.TrimSuffix(p, ";"), ":")
		needs := strings.Split(parts[1], ",")
		for k := range needs {
			needs[k] = sorted(needs[k], "|")
		}
		packs[i] = parts[0] + ":" + sorted(strings.Join(needs, ","), ",") + ":" + sorted(parts[2], ",") + ":" + sorted(parts[3], ",") + ";"
	}
	slices.SortFunc(packs, func(a, b string) int { return strings.Compare(a[:2], b[:2]) })
	return strings.Join(packs, "") + "/" + sorted(fields[1], ",") + "/" + sorted(fields[2], ",") + "/" + sorted(fields[3], ",")
}

func TestP4ThrownDocuments(t *testing.T) {
	d := dice{state: 4}
	for range 20000 {
		doc := d.document()
		want := usualForm(doc)
		wantShow(t, doc, want)
		wantShow(t, want, want)
	}
}
