package dname_test

import (
	"math/rand"
	"slices"
	"strings"
	"testing"

	"certpath/api"
	"certpath/dname"
	"certpath/text"
)

// modelMatchRelative is P7.4 for relative names, attribute by attribute.
func modelMatchRelative(a, b []api.Attribute) bool {
	has := func(l []api.Attribute, a api.Attribute) bool {
		for _, b := range l {
			if a.Type == b.Type && text.Match(a.Value, b.Value) {
				return true
			}
		}
		return false
	}
	for i := range a {
		if !has(b, a[i]) {
			return false
		}
	}
	for i := range b {
		if !has(a, b[i]) {
			return false
		}
	}
	return len(a) == len(b)
}

// modelWithin is P7.4, relative name by relative name.
func modelWithin(n, base api.Name) bool {
	for i := range base.RDNs {
		if i == len(n.RDNs) || !modelMatchRelative(n.RDNs[i], base.RDNs[i]) {
			return false
		}
	}
	return true
}

// modelMatch is P7.4.
func modelMatch(a, b api.Name) bool {
	return len(a.RDNs) == len(b.RDNs) && modelWithin(a, b)
}

// checkPair compares Match, Within and Key with their models for two names.
func checkPair(t *testing.T, a, b api.Name) {
	t.Helper()
	want := modelMatch(a, b)
	if dname.Match(a, b) != want {
		t.Fatalf("Match(%+v, %+v) is %v", a, b, !want)
	}
	if within := modelWithin(a, b); dname.Within(a, b) != within {
		t.Fatalf("Within(%+v, %+v) is %v", a, b, !within)
	}
	if modelCheck(a) == api.OK && modelCheck(b) == api.OK && (dname.Key(a) == dname.Key(b)) != want {
		t.Fatalf("Key of %+v is %q, that of %+v is %q", a, dname.Key(a), b, dname.Key(b))
	}
}

// TestMatchKnown: P7.4, names that match and names that do not, in both directions; P7.5 for those that are valid.
func TestMatchKnown(t *testing.T) {
	o, c := attr(api.OIDOrganization, "Example"), attr(api.OIDCountry, "AA")
	for _, k := range []struct {
		what string
		a, b api.Name
		want bool
	}{
		{"two empty names", api.Name{}, api.Name{}, true},
		{"nil and not nil", api.Name{}, api.Name{RDNs: [][]api.Attribute{}}, true},
		{"the empty name and another one", api.Name{}, name(cn("a")), false},
		{"itself", name(cn("a")), name(cn("a")), true},
		{"other letters", name(rel(o)), name(rel(attr(api.OIDOrganization, "EXAMPLE"))), true},
		{"other spaces", name(cn("a b")), name(cn("  a   b ")), true},
		{"other letters and spaces", name(cn("Web Server")), name(cn(" WEB  sERVER")), true},
		{"no space", name(cn("a b")), name(cn("ab")), false},
		{"spaces alone", name(cn(" ")), name(cn("   ")), true},
		{"spaces and a letter", name(cn(" ")), name(cn("a")), false},
		{"another kind", name(cn("a")), name(rel(utf8(api.OIDCommonName, "A"))), true},
		{"other kinds", name(rel(ia5(api.OIDCommonName, "a"))), name(rel(utf8(api.OIDCommonName, "a"))), true},
		{"an unknown kind", name(cn("a")), name(rel(api.Attribute{Type: api.OIDCommonName, Kind: -5, Value: "a"})), true},
		{"another value", name(cn("a")), name(cn("b")), false},
		{"a longer value", name(cn("a")), name(cn("aa")), false},
		{"letters that are not A to Z", name(rel(utf8(api.OIDCommonName, "é"))), name(rel(utf8(api.OIDCommonName, "É"))), false},
		{"another type", name(cn("a")), name(rel(attr(api.OIDCountry, "a"))), false},
		{"the values exchanged", name(rel(attr(api.OIDCommonName, "a"), attr(api.OIDCountry, "b"))), name(rel(attr(api.OIDCommonName, "b"), attr(api.OIDCountry, "a"))), false},
		{"another order of attributes", name(rel(o, c)), name(rel(c, o)), true},
		{"another order of attributes, letters and kinds", name(rel(o, c)), name(rel(utf8(api.OIDCountry, "aa"), ia5(api.OIDOrganization, "EXAMPLE "))), true},
		{"an attribute more", name(rel(o, c)), name(rel(o)), false},
		{"an attribute more, before it", name(rel(c, o)), name(rel(o)), false},
		{"another order of relative names", name(rel(o), rel(c)), name(rel(c), rel(o)), false},
		{"one relative name and two", name(rel(o, c)), name(rel(o), rel(c)), false},
		{"a relative name more", name(rel(o), rel(c)), name(rel(o)), false},
		{"a relative name more, before it", name(rel(c), rel(o)), name(rel(o)), false},
		{"a relative name twice", name(rel(o), rel(o)), name(rel(o)), false},
		{"the last of many differs", name(append(repeat(cn("a"), 7).RDNs, cn("a"))...), name(append(repeat(cn("a"), 7).RDNs, cn("b"))...), false},
		{"the first of many differs", name(append([][]api.Attribute{cn("a")}, repeat(cn("a"), 7).RDNs...)...), name(append([][]api.Attribute{cn("b")}, repeat(cn("a"), 7).RDNs...)...), false},
		{"the attributes distributed otherwise", name(rel(o, c), rel(attr("1.2", "a"))), name(rel(o), rel(c, attr("1.2", "a"))), false},
		{"a comma in a value", name(cn("a,C=b")), name(cn("a"), rel(attr(api.OIDCountry, "b"))), false},
		{"a comma and the type in a value", name(cn("a,2.5.4.6=b")), name(cn("a"), rel(attr(api.OIDCountry, "b"))), false},
		{"a plus in a value", name(cn("a+2.5.4.6=b")), name(rel(attr(api.OIDCommonName, "a"), attr(api.OIDCountry, "b"))), false},
		{"an equals sign in a value", name(cn("=a")), name(cn("a")), false},
		{"an escape as a value", name(rel(utf8(api.OIDCommonName, `\2c`))), name(cn(",")), false},
		{"a type that begins with the other one", name(rel(attr("2.5.4.1", "0=a"))), name(rel(attr("2.5.4.10", "=a"))), false},

		{"an empty relative name", name(nil), name(nil), true},
		{"an empty relative name, nil and not nil", name(nil), name(rel()), true},
		{"an empty relative name and the empty name", name(nil), api.Name{}, false},
		{"an empty relative name and another one", name(nil), name(cn("a")), false},
		{"an attribute twice", name(rel(o, o)), name(rel(o)), false},
		{"an attribute twice, in both", name(rel(o, o, c)), name(rel(o, c, c)), true},
		{"an attribute twice, and another one", name(rel(o, o)), name(rel(o, c)), false},
		{"an attribute twice, two others", name(rel(o, o, c)), name(rel(o, c, attr("1.2", "a"))), false},
		{"a type twice", name(rel(attr("2.5.4.3", "a"), attr("2.5.4.3", "b"))), name(rel(attr("2.5.4.3", "b"), attr("2.5.4.3", "a"))), true},
		{"a type twice, a value more", name(rel(attr("2.5.4.3", "a"), attr("2.5.4.3", "b"))), name(rel(attr("2.5.4.3", "b"), attr("2.5.4.3", "c"))), false},
		{"types that are none", name(rel(attr("x", "a"))), name(rel(attr("x", "A"))), true},
		{"types in other letters", name(rel(attr("x", "a"))), name(rel(attr("X", "a"))), false},
		{"types with leading zeros", name(rel(attr("1.2", "a"))), name(rel(attr("1.02", "a"))), false},
		{"types with spaces", name(rel(attr("1.2", "a"))), name(rel(attr("1.2 ", "a"))), false},
		{"a short type", name(cn("a")), name(rel(attr("CN", "a"))), false},
		{"a type that ends where the value begins", name(rel(attr("1.2", "3"))), name(rel(attr("1.23", ""))), false},
		{"values that are none", name(rel(attr("", "\x00\xff"))), name(rel(utf8("", "\x00\xff "))), true},
	} {
		if dname.Match(k.a, k.b) != k.want || dname.Match(k.b, k.a) != k.want {
			t.Errorf("%s: Match is %v", k.what, !k.want)
		}
		checkPair(t, k.a, k.b)
		checkPair(t, k.b, k.a)
	}
}

// TestMatchOrders: P7.4 and P7.5, the attributes of a relative name in every order.
func TestMatchOrders(t *testing.T) {
	r := rel(attr("2.5.4.3", "abcd"), attr("2.5.4.6", "abc"), attr("2.5.4.7", "ab"), attr("2.5.4.10", "a"))
	changed := rel(attr("2.5.4.3", "abcd"), attr("2.5.4.6", "abc"), attr("2.5.4.7", "ab"), attr("2.5.4.10", "b"))
	key := dname.Key(name(cn("z"), r))
	for _, o := range orders(r) {
		n := name(cn("Z"), o)
		if !dname.Match(n, name(cn("z"), r)) || !dname.Match(name(cn("z"), r), n) || !dname.Within(n, name(cn("z"), r)) || dname.Key(n) != key {
			t.Errorf("%+v does not match %+v", o, r)
		}
		if dname.Match(n, name(cn("z"), changed)) || dname.Match(name(cn("z"), changed), n) || dname.Within(n, name(cn("z"), changed)) {
			t.Errorf("%+v matches %+v", o, changed)
		}
	}
}

// TestWithinKnown: P7.4, names within themselves, within others, and not within others.
func TestWithinKnown(t *testing.T) {
	a, b, c := cn("a"), rel(attr(api.OIDOrganization, "b"), attr(api.OIDCountry, "b")), cn("c")
	for _, k := range []struct {
		what    string
		n, base api.Name
		want    bool
	}{
		{"the empty name within itself", api.Name{}, api.Name{}, true},
		{"nil within not nil", api.Name{}, api.Name{RDNs: [][]api.Attribute{}}, true},
		{"a name within the empty name", name(a, b), api.Name{}, true},
		{"the empty name within another one", api.Name{}, name(a), false},
		{"a name within itself", name(a, b, c), name(a, b, c), true},
		{"within its first relative name", name(a, b, c), name(a), true},
		{"within its first ones", name(a, b, c), name(a, b), true},
		{"within a longer one", name(a, b), name(a, b, c), false},
		{"within one that is much longer", name(a), repeat(a, 1000), false},
		{"within its last one", name(a, b, c), name(c), false},
		{"within its last ones", name(a, b, c), name(b, c), false},
		{"within one in the middle", name(a, b, c), name(b), false},
		{"the first ones, one of which is left out", name(a, b, c), name(a, c), false},
		{"the last of the first ones differs", name(a, b, c), name(a, cn("x")), false},
		{"the first of the first ones differs", name(a, b, c), name(cn("x"), b), false},
		{"other letters, spaces, kinds and orders", name(a, b, c), name(rel(utf8(api.OIDCommonName, " A ")), rel(ia5(api.OIDCountry, "B "), attr(api.OIDOrganization, "B"))), true},
		{"fewer attributes", name(a, b), name(a, b[:1]), false},
		{"more attributes", name(a, b[:1]), name(a, b), false},
		{"an empty relative name", name(a), name(nil), false},
		{"an empty relative name within itself", name(nil, a), name(nil), true},
	} {
		if dname.Within(k.n, k.base) != k.want {
			t.Errorf("%s: Within is %v", k.what, !k.want)
		}
		checkPair(t, k.n, k.base)
	}
}

// some are names of all sorts, many of which match others; the last ones are not valid.
func some() []api.Name {
	var relatives [][]api.Attribute
	for _, v := range []string{"a", "A ", "b"} {
		relatives = append(relatives, cn(v), rel(utf8(api.OIDOrganization, v)), rel(attr(api.OIDCountry, v), attr(api.OIDCommonName, "a")), rel(ia5(api.OIDCommonName, " A"), attr(api.OIDCountry, v)))
	}
	relatives = append(relatives, cn(" "), rel(utf8(api.OIDCommonName, "  ")), cn("a,2.5.4.3=a"), cn("a+2.5.4.3=a"), rel(utf8(api.OIDCommonName, `a\2c2.5.4.3\3da`)))
	l := []api.Name{{}}
	for _, r := range relatives {
		l = append(l, name(r), name(r, cn("a")), name(cn("a"), r), name(cn("A"), r, cn("b")))
	}
	for _, r := range [][]api.Attribute{nil, rel(attr("", "")), rel(attr("2.5.4.3", "a"), attr("2.5.4.3", "A")), rel(attr("2.5.4.3", "a"), attr("2.5.4.3", "b")), rel(attr("2.5.4.3", "b"), attr("2.5.4.3", "b")), rel(attr("2.5.4.3", "b"), attr("2.5.4.3", "A"), attr("2.5.4.3", "a"))} {
		l = append(l, name(r), name(cn("a"), r), name(r, cn("a")))
	}
	return append(l, repeat(cn("a"), 9))
}

// TestPairs: P7.4 and P7.5, all pairs of names of all sorts.
func TestPairs(t *testing.T) {
	for _, a := range some() {
		for _, b := range some() {
			checkPair(t, a, b)
		}
	}
}

// TestEquivalence: P7.8, matching is an equivalence, and Within is reflexive and transitive, for all triples of names of all sorts.
func TestEquivalence(t *testing.T) {
	l := some()
	match, within := make([][]bool, len(l)), make([][]bool, len(l))
	for i, a := range l {
		for _, b := range l {
			match[i], within[i] = append(match[i], dname.Match(a, b)), append(within[i], dname.Within(a, b))
		}
	}
	for i := range l {
		if !match[i][i] || !within[i][i] {
			t.Fatalf("%+v does not match itself, or is not within itself", l[i])
		}
		for k := range l {
			if match[i][k] != match[k][i] || match[i][k] != (within[i][k] && within[k][i]) {
				t.Fatalf("matching is not symmetric for %+v and %+v, or not the same as to be within each other", l[i], l[k])
			}
			for m := range l {
				if match[i][k] && match[k][m] && !match[i][m] || within[i][k] && within[k][m] && !within[i][m] {
					t.Fatalf("not transitive for %+v, %+v and %+v", l[i], l[k], l[m])
				}
			}
		}
	}
}

// varied returns a name that often matches n: other letters, spaces, kinds and orders, and sometimes another value or another number of relative names.
func varied(r *rand.Rand, n api.Name) api.Name {
	n = clone(n)
	for _, l := range n.RDNs {
		r.Shuffle(len(l), func(i, j int) { l[i], l[j] = l[j], l[i] })
		for i := range l {
			switch r.Intn(4) {
			case 0:
				l[i].Kind = api.TagUTF8
			case 1:
				l[i].Value = " " + strings.ReplaceAll(l[i].Value, "a", "A")
			}
			if r.Intn(20) == 0 {
				l[i].Value += "x"
			}
		}
	}
	if r.Intn(4) == 0 {
		n.RDNs = n.RDNs[:r.Intn(len(n.RDNs)+1)]
	}
	return n
}

// TestMatchRandom: P7.4 and P7.5, random names with variations of them.
func TestMatchRandom(t *testing.T) {
	r := rand.New(rand.NewSource(4))
	matches := 0
	for range 10000 {
		a := damaged(r, randomName(r))
		b := varied(r, a)
		checkPair(t, a, b)
		checkPair(t, b, a)
		checkPair(t, a, randomName(r))
		if dname.Match(a, b) && !none(a) {
			matches++
		}
	}
	if matches < 1000 {
		t.Errorf("only %d names match their variations", matches)
	}
}

// TestKeyDistinct: P7.5, values with the characters of the texts of names, alone and together, never lead to the Key of another name.
func TestKeyDistinct(t *testing.T) {
	parts := []string{"a", ",", "+", "=", `\`, "2.5.4.3", "2.5.4.6", " ", "\"", ";", "CN", "2c", "\u00ff"}
	var names []api.Name
	for _, x := range parts {
		for _, y := range parts {
			for _, z := range append(parts, "") {
				names = append(names, name(rel(utf8("2.5.4.3", x+y+z))))
			}
			names = append(names, name(rel(utf8("2.5.4.3", x)), rel(utf8("2.5.4.3", y))), name(rel(utf8("2.5.4.3", x), utf8("2.5.4.6", y))), name(rel(utf8("2.5.4.3", x)), rel(utf8("2.5.4.6", y))))
		}
	}
	byKey := map[string]api.Name{}
	for _, n := range names {
		key := dname.Key(n)
		if first, ok := byKey[key]; ok && !modelMatch(first, n) {
			t.Fatalf("%+v and %+v have the Key %q", first, n, key)
		}
		byKey[key] = n
	}
	for _, n := range names {
		if !modelMatch(byKey[dname.Key(n)], n) {
			t.Fatalf("the Key of %+v is not always the same", n)
		}
	}
}

// TestLarge: R1, names with many parts, which Check refuses, are compared all the same.
func TestLarge(t *testing.T) {
	many := make([]api.Attribute, 100000)
	for i := range many {
		many[i] = attr("2.5.4.3", strings.Repeat("a", i%50)+strings.Repeat("b", i%49)+strings.Repeat("c", i%43))
	}
	turned := slices.Clone(many)
	slices.Reverse(turned)
	if !dname.Match(name(many), name(turned)) || !dname.Within(name(many, cn("a")), name(turned)) {
		t.Error("many attributes do not match themselves in another order")
	}
	if turned[0] = attr("2.5.4.3", "d"); dname.Match(name(many), name(turned)) || dname.Match(name(turned), name(many)) {
		t.Error("many attributes match others")
	}
	long := repeat(cn(strings.Repeat(" a", 100)), 50000)
	if !dname.Match(long, clone(long)) || dname.Within(long, repeat(cn("a"), 1)) {
		t.Error("many relative names do not match themselves, or are within others")
	}
	dname.Key(long)
	dname.Key(name(many))
}
