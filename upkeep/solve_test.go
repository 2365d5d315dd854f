package upkeep_test

import (
	"slices"
	"strings"
	"testing"

	"upkeep/api"
	"upkeep/upkeep"
)

// wantMet holds Solve to an assignment: one literal for each variable that occurs, in the order of the alphabet, and all of them together meet everything.
func wantMet(t *testing.T, clauses, assume string) {
	t.Helper()
	text, can, errno := upkeep.Solve(clauses, assume)
	if !can || errno != api.OK {
		t.Errorf("P7: Solve(%.120q, %.60q) = %q, %v, %d, but it can be met", clauses, assume, text, can, errno)
		return
	}
	if strings.ToLower(text) != refVariables(clauses, assume) {
		t.Errorf("P7: Solve(%.120q, %.60q) = %q: not a literal for each variable that occurs", clauses, assume, text)
	}
	if !refMeets(clauses, assume, text) {
		t.Errorf("P7: Solve(%.120q, %.60q) = %q: these do not meet everything", clauses, assume, text)
	}
}

// wantSomeOf holds Solve to some of the literals of assume, in the order of bytes, and answers them.
func wantSomeOf(t *testing.T, clauses, assume string) string {
	t.Helper()
	text, can, errno := upkeep.Solve(clauses, assume)
	if can || errno != api.OK {
		t.Errorf("P7: Solve(%.120q, %.60q) = %q, %v, %d, but it cannot be met", clauses, assume, text, can, errno)
		return text
	}
	for i := range len(text) {
		if strings.IndexByte(assume, text[i]) < 0 || i > 0 && text[i-1] >= text[i] {
			t.Errorf("P7: Solve(%.120q, %.60q) = %q: not some of the literals, in the order of bytes, none twice", clauses, assume, text)
		}
	}
	return text
}

// wantRefused is for few variables, so that all assignments can be tried on the literals answered.
func wantRefused(t *testing.T, clauses, assume string) {
	t.Helper()
	text := wantSomeOf(t, clauses, assume)
	if refCan(clauses, text) {
		t.Errorf("P7: Solve(%.120q, %.60q) = %q: with these the clauses can be met", clauses, assume, text)
	}
}

// wantJust is for literals of which none can be left out.
func wantJust(t *testing.T, clauses, assume, want string) {
	t.Helper()
	text := wantSomeOf(t, clauses, assume)
	if text != want {
		t.Errorf("P7: Solve(%.120q, %.60q) = %q, want %q", clauses, assume, text, want)
	}
}

func wantNotSolved(t *testing.T, clauses, assume string, want api.Errno) {
	t.Helper()
	text, can, errno := upkeep.Solve(clauses, assume)
	if text != "" || can || errno != want {
		t.Errorf("P7: Solve(%.60q, %.60q) = %q, %v, %d, want \"\", false, %d", clauses, assume, text, can, errno, want)
	}
}

func wantAsTried(t *testing.T, clauses, assume string) {
	t.Helper()
	if refCan(clauses, assume) {
		wantMet(t, clauses, assume)
	} else {
		wantRefused(t, clauses, assume)
	}
}

func TestP7Examples(t *testing.T) {
	text, can, errno := upkeep.Solve("ab;Ab;", "")
	if !can || errno != api.OK || text != "ab" && text != "Ab" {
		t.Errorf("P7: %q, %v, %d", text, can, errno)
	}
	wantJust(t, "ab;Ab;", "B", "B")
	text, can, errno = upkeep.Solve(";", "a")
	if can || errno != api.OK || text != "" && text != "a" {
		t.Errorf("P7: %q, %v, %d", text, can, errno)
	}
	text, can, errno = upkeep.Solve("", "cA")
	if !can || errno != api.OK || text != "Ac" {
		t.Errorf("P7: %q, %v, %d", text, can, errno)
	}
	wantJust(t, "", "aA", "Aa")
}

func TestP7CanBeMet(t *testing.T) {
	for _, c := range []struct{ clauses, assume string }{
		// No clauses; variables that occur in assume alone.
		{"", ""}, {"", "a"}, {"", "Z"}, {"", "zyxA"}, {"", "Mn"}, {"", "nM"}, {"b;", "a"}, {"bc;", "zA"}, {"a;", "a"},
		// The same literal more than once.
		{"", "aa"}, {"", "BaBa"}, {"aa;", ""}, {"aab;", "A"}, {"a;a;", "aa"}, {"aba;", "AA"},
		// One literal, and both of a variable, in a clause.
		{"a;", ""}, {"A;", ""}, {"z;", ""}, {"Z;", ""}, {"aA;", ""}, {"Aa;", "a"}, {"aA;", "A"}, {"aA;bB;cC;", "bA"}, {"aAb;", "B"},
		// Clauses of several literals.
		{"ab;Ab;", ""}, {"ab;Ab;aB;", ""}, {"abc;ABC;", "ab"}, {"ab;aB;Ab;", ""}, {"ab;aB;AB;", ""}, {"ab;Ab;AB;", ""}, {"aB;Ab;AB;", ""},
		{"zY;", "Z"}, {"zY;yZ;", "z"}, {"zY;yZ;", "Y"}, {"Ab;Bc;Cd;De;", "a"}, {"Ab;Bc;Cd;De;", "E"}, {"AB;AC;BC;abc;", ""}, {"AB;AC;BC;abc;", "AB"},
		{"abcdefghijklmnopqrstuvwxyz;", ""}, {"abcdefghijklmnopqrstuvwxyz;", "ABCDEFGHIJKLMNOPQRSTUVWXY"}, {"ABCDEFGHIJKLMNOPQRSTUVWXYZ;", "abcdefghijklmnopqrstuvwxy"},
	} {
		wantMet(t, c.clauses, c.assume)
	}
}

func TestP7CannotBeMet(t *testing.T) {
	for _, c := range []struct{ clauses, assume string }{
		// The empty clause, wherever it stands.
		{";", ""}, {";;", ""}, {"a;;", ""}, {";a;", ""}, {"ab;;Ab;", ""}, {";", "a"}, {";", "aA"}, {"a;;", "A"}, {";", "zZyY"},
		// Clauses that cannot be met together.
		{"a;A;", ""}, {"z;Z;", ""}, {"a;A;", "bc"}, {"a;A;", "aA"}, {"ab;aB;Ab;AB;", ""}, {"ab;aB;Ab;AB;", "c"}, {"ab;aB;A;", ""},
		{"abc;abC;aBc;aBC;Abc;AbC;ABc;ABC;", ""}, {"a;Ab;Bc;C;", ""}, {"AB;AC;BC;ab;ac;bc;", ""}, {"xX;a;A;", "x"},
		// Literals that clauses refuse, and some beside them.
		{"A;", "a"}, {"a;", "A"}, {"ab;Ab;", "B"}, {"ab;", "BA"}, {"AB;", "ba"}, {"Ab;Bc;", "aC"}, {"Ab;Bc;", "daCe"}, {"abc;", "CBA"}, {"abc;", "dCBeAf"}, {"aab;", "BBAA"},
		{"AB;AC;BC;abc;", "ab"}, {"AB;AC;BC;abc;", "ABC"}, {"zyx;", "ZYX"}, {"zyx;a;A;", "ZYX"},
		// A literal and its opposite.
		{"", "aA"}, {"", "Aa"}, {"", "zZ"}, {"", "aAaA"}, {"", "bAaB"}, {"", "abcC"}, {"a;", "bB"}, {"aA;", "aA"}, {"a;", "aA"}, {"ab;", "ABcC"},
	} {
		wantRefused(t, c.clauses, c.assume)
	}
}

func TestP7NoneCanBeLeftOut(t *testing.T) {
	for _, c := range []struct{ clauses, assume, want string }{
		{"A;", "a", "a"}, {"AB;", "ba", "ab"}, {"ab;", "BA", "AB"}, {"Ab;", "Ba", "Ba"}, {"ABC;", "cab", "abc"}, {"abc;", "BBCCAA", "ABC"},
		{"zA;", "aZ", "Za"}, {"Ab;Bc;", "aC", "Ca"}, {"AbZ;BcZ;CZ;", "za", "az"}, {"", "aA", "Aa"}, {"", "zZ", "Zz"}, {"", "mMm", "Mm"}, {"a;A;", "", ""}, {";", "", ""},
		{"Ab;Bc;Cd;De;Ef;Fg;Gh;Hi;Ij;Jk;Kl;Lm;Mn;No;Op;Pq;Qr;Rs;St;Tu;Uv;Vw;Wx;Xy;Yz;", "Za", "Za"},
		{"ABCDEFGHIJKLMNOPQRSTUVWXYZ;", "zyxwvutsrqponmlkjihgfedcba", "abcdefghijklmnopqrstuvwxyz"},
		{"abcdefghijklmNOPQRSTUVWXYZ;", "zyxwvutsrqponMLKJIHGFEDCBA", "ABCDEFGHIJKLMnopqrstuvwxyz"},
	} {
		wantJust(t, c.clauses, c.assume, c.want)
	}
}

func TestP7TextsOfMaxTextBytesAndOneMore(t *testing.T) {
	if api.MaxText != 800 {
		t.Errorf("MaxText is %d", api.MaxText)
	}
	long := strings.Repeat("q", 800)
	wantMet(t, strings.Repeat("a;", 400), "")
	wantMet(t, strings.Repeat("a", 799)+";", "")
	wantMet(t, strings.Repeat("aA", 399)+"b;", "B")
	wantMet(t, "", long)
	wantMet(t, strings.Repeat("a;", 400), long)
	wantMet(t, strings.Repeat("a;", 400), strings.Repeat("aB", 400))
	wantRefused(t, strings.Repeat(";", 800), "")
	wantRefused(t, strings.Repeat(";", 800), long)
	wantRefused(t, strings.Repeat("Q;", 400), long)
	wantRefused(t, strings.Repeat("a;A;", 200), "")
	wantJust(t, strings.Repeat("a", 799)+";", strings.Repeat("A", 800), "A")
	wantJust(t, "", strings.Repeat("Qq", 400), "Qq")
	wantNotSolved(t, strings.Repeat("a", 800)+";", "", api.ErrLong)
	wantNotSolved(t, strings.Repeat("a;", 400)+";", "", api.ErrLong)
	wantNotSolved(t, strings.Repeat(";", 801), "", api.ErrLong)
	wantNotSolved(t, "", strings.Repeat("q", 801), api.ErrLong)
	wantNotSolved(t, "a;", strings.Repeat("q", 801), api.ErrLong)
	wantNotSolved(t, strings.Repeat(";", 801), strings.Repeat("q", 801), api.ErrLong)
	wantNotSolved(t, strings.Repeat(";", 9000000), "", api.ErrLong)
	wantNotSolved(t, "", strings.Repeat("q", 9000000), api.ErrLong)
}

func TestP7NoClauses(t *testing.T) {
	for _, clauses := range []string{
		"a", "aB", "a;b", "a;bC", ";a", "a;;b", "abc;ABC;d", strings.Repeat("a", 800),
		" ", "a ;", "a b;", "a; b;", "a;\n", "\n", "1;", "a1;", "-a;", "a,b;", "a|b;", "a;/", ":", "a:", "_;", "\x00;", "a;\x00", "\xe1;", "é;", "a;;é",
	} {
		for _, assume := range []string{"", "a", "Ba"} {
			wantNotSolved(t, clauses, assume, api.ErrClause)
		}
	}
}

func TestP7NoLiterals(t *testing.T) {
	for _, assume := range []string{
		";", "a;", ";a", "a;b", " ", "a b", "a ", " a", "a\n", "1", "a1", "-a", "a,b", "_", "\x00", "a\x00", "\xe1", "é", "aé", strings.Repeat("a", 799) + ";",
	} {
		for _, clauses := range []string{"", "a;", "a;A;", ";"} {
			wantNotSolved(t, clauses, assume, api.ErrAssume)
		}
	}
}

// TestP7EveryByte lays every byte at each place of clauses and of literals.
func TestP7EveryByte(t *testing.T) {
	for b := range 256 {
		letter := b >= 'a' && b <= 'z' || b >= 'A' && b <= 'Z'
		for at := range 5 {
			clauses := []byte("ax;Z;")
			clauses[at] = byte(b)
			if clauses[4] == ';' && (letter || b == ';') {
				wantAsTried(t, string(clauses), "b")
			} else {
				wantNotSolved(t, string(clauses), "b", api.ErrClause)
			}
		}
		for at := range 3 {
			assume := []byte("bXz")
			assume[at] = byte(b)
			if letter {
				wantAsTried(t, "ax;Zb;", string(assume))
			} else {
				wantNotSolved(t, "ax;Zb;", string(assume), api.ErrAssume)
			}
		}
	}
}

func TestP7ErrorsInTheirOrder(t *testing.T) {
	long := []string{strings.Repeat("a", 801), strings.Repeat("?", 801), strings.Repeat("a;", 401)}
	badClauses := []string{"a", "a;b", "?", "1;", strings.Repeat("?", 800)}
	badAssume := []string{";", "?", "a;", "a1", strings.Repeat("?", 800)}
	for _, text := range long {
		for _, other := range slices.Concat([]string{"", "a;", "a"}, long, badClauses, badAssume) {
			wantNotSolved(t, text, other, api.ErrLong)
			wantNotSolved(t, other, text, api.ErrLong)
		}
	}
	for _, clauses := range badClauses {
		for _, assume := range slices.Concat([]string{"", "a", "aA"}, badAssume) {
			wantNotSolved(t, clauses, assume, api.ErrClause)
		}
	}
	for _, assume := range badAssume {
		for _, clauses := range []string{"", "a;", ";", "a;A;"} {
			wantNotSolved(t, clauses, assume, api.ErrAssume)
		}
	}
}

// textsOf are all texts of these bytes, up to a length.
func textsOf(bytes string, length int) []string {
	texts := []string{""}
	for at := 0; at < len(texts) && len(texts[at]) < length; at++ {
		for i := range len(bytes) {
			texts = append(texts, texts[at]+bytes[i:i+1])
		}
	}
	return texts
}

func TestP7AllShortTexts(t *testing.T) {
	for _, clauses := range textsOf("aAbB;", 6) {
		for _, assume := range textsOf("aAbB", 2) {
			if clauses == "" || strings.HasSuffix(clauses, ";") {
				wantAsTried(t, clauses, assume)
			} else {
				wantNotSolved(t, clauses, assume, api.ErrClause)
			}
		}
	}
}

// literals throws n literals of these variables.
func (d *dice) literals(variables string, n int) string {
	text := ""
	for range n {
		letter := d.pick(variables)
		if d.below(2) == 0 {
			letter = strings.ToUpper(letter)
		}
		text += letter
	}
	return text
}

// clauses throws n clauses of these variables, of one to most literals.
func (d *dice) clauses(variables string, n, most int) string {
	text := ""
	for range n {
		text += d.literals(variables, 1+d.below(most)) + ";"
	}
	return text
}

// variables throws variables from the whole alphabet.
func (d *dice) variables(n int) string {
	text := ""
	for range n {
		text += d.pick("abcdefghijklmnopqrstuvwxyz")
	}
	return text
}

func TestP7ThrownClauses(t *testing.T) {
	d := dice{state: 7}
	met := 0
	const tries = 6000
	for range tries {
		variables := d.variables(1 + d.below(7))
		clauses := d.clauses(variables, d.below(1+3*len(variables)), 1+d.below(4))
		assume := d.literals(variables, d.below(5))
		if d.below(4) == 0 {
			assume += d.literals("amz", d.below(3))
		}
		if refCan(clauses, assume) {
			met++
		}
		wantAsTried(t, clauses, assume)
	}
	if met < tries/5 || met > tries*4/5 {
		t.Errorf("%d of %d can be met: too one-sided to tell much", met, tries)
	}
}

// TestP7AllVariables hides an assignment of all 26 variables in clauses as long as may be.
func TestP7AllVariables(t *testing.T) {
	d := dice{state: 26}
	for range 300 {
		hidden := ""
		for v := 'a'; v <= 'z'; v++ {
			hidden += d.literals(string(v), 1)
		}
		most := 2 + d.below(5)
		clauses := ""
		for {
			clause := d.clauses("abcdefghijklmnopqrstuvwxyz", 1, most)
			if len(clauses)+len(clause) > api.MaxText {
				break
			}
			if refMeets(clause, "", hidden) {
				clauses += clause
			}
		}
		wantMet(t, clauses, "")
		wantMet(t, clauses, hidden)
		wantMet(t, clauses, hidden[3:9])
	}
}

// pigeons are clauses that put each of the pigeons into one of the holes, no two into the same, a variable for each pair; with a letter of extra in the clause of each pigeon.
func pigeons(number, holes int, extra string) string {
	text := ""
	for p := range number {
		for h := range holes {
			text += string(rune('a' + p*holes + h))
		}
		text += extra[p:p+1] + ";"
	}
	for h := range holes {
		for p := range number {
			for q := range p {
				text += string(rune('A'+p*holes+h)) + string(rune('A'+q*holes+h)) + ";"
			}
		}
	}
	return text
}

// TestP7HardClauses has clauses that trying assignment after assignment would take very long for.
func TestP7HardClauses(t *testing.T) {
	clauses := pigeons(5, 4, "uvwxy")
	wantMet(t, clauses, "")
	wantMet(t, clauses, "UVWX")
	wantMet(t, clauses, "VWXYz")
	// Four find room: each of the five is needed.
	wantJust(t, clauses, "YXWVU", "UVWXY")
	wantSomeOf(t, clauses, "zYXWVU")
	wantJust(t, pigeons(5, 4, "zzzzz"), "Z", "Z")
	wantMet(t, pigeons(4, 4, "qqqq"), "Q")

	// Clauses of the variables a to v that are easy to meet lead nowhere, as the rest cannot be met.
	easy := ""
	for v := 'a'; v+3 <= 'v'; v++ {
		easy += string([]rune{v, v + 1, v - 'a' + 'A' + 2, v + 3, ';'})
	}
	never := ""
	for bits := range 16 {
		clause := []byte("wxyz;")
		for i := range 4 {
			clause[i] -= byte(bits >> i & 1 * ('a' - 'A'))
		}
		never += string(clause)
	}
	wantJust(t, easy+never, "", "")
	wantJust(t, never+easy, "", "")
	// Without its first clause, it can be met by WXYZ alone.
	wantMet(t, easy+never[5:], "")
	wantMet(t, easy+never[5:], "ZYXW")
	for _, literal := range []string{"w", "x", "y", "z"} {
		wantJust(t, easy+never[5:], literal, literal)
	}
}
