package text_test

import (
	"math/rand"
	"regexp"
	"strings"
	"testing"

	"certpath/text"
)

var spaces = regexp.MustCompile(` +`)

// modelFold is P6.2, in three steps.
func modelFold(s string) string {
	b := []byte(s)
	for i, c := range b {
		if at := strings.IndexByte("ABCDEFGHIJKLMNOPQRSTUVWXYZ", c); at >= 0 {
			b[i] = "abcdefghijklmnopqrstuvwxyz"[at]
		}
	}
	return string(spaces.ReplaceAll([]byte(strings.Trim(string(b), " ")), []byte(" ")))
}

// checkFold compares Fold with P6.2, and Match with it.
func checkFold(t *testing.T, s string) {
	t.Helper()
	want := modelFold(s)
	if got := text.Fold(s); got != want {
		t.Fatalf("Fold(%+.60q) is %+.60q, want %+.60q", s, got, want)
	}
	if !text.Match(s, want) || !text.Match(want, s) || !text.Match(s, s) {
		t.Fatalf("%+.60q does not match itself or its Fold", s)
	}
}

// TestFoldKnown: P6.2, strings with their Folds, which are written out here; the first one is the example of the chapter.
func TestFoldKnown(t *testing.T) {
	for _, k := range []struct{ s, fold string }{
		{"  Example   Corp ", "example corp"}, {"Example Corp", "example corp"}, {"example corp", "example corp"}, {"EXAMPLE CORP", "example corp"}, {"ExampleCorp", "examplecorp"},
		{"", ""}, {" ", ""}, {"  ", ""}, {strings.Repeat(" ", 100000), ""},
		{"a", "a"}, {" a", "a"}, {"a ", "a"}, {" a ", "a"}, {"   a", "a"}, {"a   ", "a"}, {"   a   ", "a"}, {"a b", "a b"}, {"a  b", "a b"}, {"a   b", "a b"}, {" a b ", "a b"}, {"  a  b  ", "a b"}, {"a b c", "a b c"}, {"a  b   c", "a b c"},
		{"ABCDEFGHIJKLMNOPQRSTUVWXYZ", "abcdefghijklmnopqrstuvwxyz"}, {"abcdefghijklmnopqrstuvwxyz", "abcdefghijklmnopqrstuvwxyz"}, {"@AZ[`az{", "@az[`az{"}, {"0123456789", "0123456789"}, {"!\"#$%&'()*+,-./:;<=>?@[\\]^_`{|}~", "!\"#$%&'()*+,-./:;<=>?@[\\]^_`{|}~"},
		{"\ta\t", "\ta\t"}, {"a\tb", "a\tb"}, {" \t a", "\t a"}, {"a \t", "a \t"}, {"\n", "\n"}, {" \r\n ", "\r\n"}, {"a\x00  \x00B", "a\x00 \x00b"}, {"\v\f\x85\xa0", "\v\f\x85\xa0"}, {"\u00a0A\u2003", "\u00a0a\u2003"}, {"\u3000  \u3000", "\u3000 \u3000"},
		{"\u00c9", "\u00c9"}, {"\u212a", "\u212a"}, {"\u0130I", "\u0130i"}, {"\uff21A", "\uff21a"}, {"\u0391", "\u0391"}, {"Stra\u00dfe", "stra\u00dfe"}, {"\u00e9  \u00c9 ", "\u00e9 \u00c9"},
		{"\xff", "\xff"}, {" \xff ", "\xff"}, {"\xff  \xff", "\xff \xff"}, {"\xc3A", "\xc3a"}, {"\xc3 \xa9", "\xc3 \xa9"}, {"\xc1\xda", "\xc1\xda"}, {"\x80 \xbf", "\x80 \xbf"}, {"\xed\xa0\x80A", "\xed\xa0\x80a"}, {"\xc0\xa0A", "\xc0\xa0a"}, {"\xe2\x82", "\xe2\x82"}, {"\ufffdA\xfd", "\ufffda\xfd"},
	} {
		if got := text.Fold(k.s); got != k.fold {
			t.Errorf("Fold(%+.60q) is %+.60q, want %+.60q", k.s, got, k.fold)
		}
		checkFold(t, k.s)
	}
}

// TestFoldBytes: P6.2, every byte, alone and among others; only letters A to Z and spaces change.
func TestFoldBytes(t *testing.T) {
	checkFold(t, bytes())
	for c := range 256 {
		b := one(c)
		for _, s := range []string{b, b + b, "a" + b + "a", "A" + b + "A", " " + b + " ", b + "  " + b, "  " + b + b, b + " a", "é" + b, b + "\xff" + b} {
			checkFold(t, s)
		}
		if changes := c == ' ' || c >= 'A' && c <= 'Z'; (text.Fold(b) != b) != changes {
			t.Errorf("Fold(%q) is %q", b, text.Fold(b))
		}
	}
}

// TestFoldShort: P6.2, every string of up to six of the bytes that matter.
func TestFoldShort(t *testing.T) {
	each([]string{" ", "a", "A", "Z", "[", "\t", "\xff", "\u00a0"}, 6, func(s string) { checkFold(t, s) })
}

// TestFoldRandom: P6.2, random bytes, half of them spaces and letters.
func TestFoldRandom(t *testing.T) {
	r := rand.New(rand.NewSource(2))
	few := []string{" ", "  ", "   ", "a", "A", "z", "Z", "é", "\xc3", "\xa9"}
	for range 50000 {
		b := make([]byte, r.Intn(20))
		for i := range b {
			b[i] = byte(r.Intn(256))
		}
		checkFold(t, string(b)+random(r, few, 10)+string(b))
		checkFold(t, random(r, few, 40))
	}
}

// TestFoldLong: P6.2, long strings.
func TestFoldLong(t *testing.T) {
	for _, s := range []string{strings.Repeat("A ", 50000), strings.Repeat(" a", 50000), strings.Repeat(" ", 50000) + "B" + strings.Repeat(" ", 50000), "B" + strings.Repeat(" ", 100000) + "C", strings.Repeat("Z", 100000), strings.Repeat("\xff  ", 30000)} {
		checkFold(t, s)
	}
}

// TestMatchKnown: P6.2, strings that match and strings that do not.
func TestMatchKnown(t *testing.T) {
	for _, k := range []struct {
		a, b string
		want bool
	}{
		{"", "", true}, {"", " ", true}, {" ", "   ", true}, {"", "a", false}, {" ", "a", false}, {"a", "A", true}, {"a", "b", false}, {"a", "aa", false},
		{"Example Corp", " example   CORP  ", true}, {"Example Corp", "ExampleCorp", false}, {"a b", "ab", false}, {"a b", "a\tb", false}, {"a b", "a\u00a0b", false}, {"ab ", " ab", true}, {"a b c", "A  B   C", true},
		{"@", "`", false}, {"[", "{", false}, {"Z", "z", true}, {"Z", "[", false}, {"0", "\x10", false}, {"\x00", "", false}, {"a\x00", "a", false}, {"\n", "", false}, {"\t", " ", false},
		{"é", "é", true}, {"é", "É", false}, {"é", "e", false}, {"é", "e\u0301", false}, {"K", "\u212a", false}, {"k", "\u212a", false}, {"s", "\u017f", false}, {"ß", "ss", false}, {"A", "\uff21", false}, {"i", "\u0130", false},
		{"\xff", "\xff", true}, {"\xff", "\xfe", false}, {"\xff", "\ufffd", false}, {"\xc1", "\xe1", false}, {"\xc3A", "\xc3a", true}, {"\xff ", "\xff", true}, {"\xc3 \xa9", "\xc3\xa9", false},
	} {
		if text.Match(k.a, k.b) != k.want || text.Match(k.b, k.a) != k.want {
			t.Errorf("Match of %+q and %+q, or the other way round, is %v", k.a, k.b, !k.want)
		}
	}
}

// TestMatch: P6.2, all pairs of strings of up to four of the bytes that matter.
func TestMatch(t *testing.T) {
	var l []string
	each([]string{" ", "a", "A", "b", "\xff"}, 4, func(s string) { l = append(l, s) })
	for _, a := range l {
		for _, b := range l {
			if want := modelFold(a) == modelFold(b); text.Match(a, b) != want {
				t.Fatalf("Match(%q, %q) is %v", a, b, !want)
			}
		}
	}
}

// TestMatchEquivalence: P6.4, matching is reflexive, symmetric and transitive for all triples of short strings.
func TestMatchEquivalence(t *testing.T) {
	var l []string
	each([]string{" ", "a", "A"}, 4, func(s string) { l = append(l, s) })
	for _, a := range l {
		for _, b := range l {
			if text.Match(a, b) != text.Match(b, a) || !text.Match(a, a) {
				t.Fatalf("matching is not symmetric or not reflexive for %q and %q", a, b)
			}
			for _, c := range l {
				if text.Match(a, b) && text.Match(b, c) && !text.Match(a, c) {
					t.Fatalf("matching is not transitive for %q, %q and %q", a, b, c)
				}
			}
		}
	}
}

// TestFoldTwice: P6.4, the Fold of a Fold is the same string.
func TestFoldTwice(t *testing.T) {
	check := func(s string) {
		if f := text.Fold(s); text.Fold(f) != f {
			t.Fatalf("Fold(%q) is %q, and the Fold of that is %q", s, f, text.Fold(f))
		}
	}
	check(bytes())
	each([]string{" ", "a", "A", "\t", "\xc3", "é"}, 6, check)
	r := rand.New(rand.NewSource(5))
	for range 20000 {
		check(random(r, []string{" ", "   ", "A", "z", "\n", "\xff", "É"}, 40))
	}
}
