package subtree_test

import (
	"math/rand"
	"slices"
	"strings"
	"testing"

	"certpath/api"
	"certpath/gname"
	"certpath/subtree"
)

// modelPermits is P10.3 for Permits.
func modelPermits(st api.NameState, g api.GeneralName) bool {
	for _, s := range st.Constraints {
		limited, inside := false, false
		for _, base := range s.Permitted {
			limited = limited || base.Kind == g.Kind
			inside = inside || gname.Within(g, base)
		}
		for _, base := range s.Excluded {
			if gname.Within(g, base) {
				return false
			}
		}
		if limited && !inside {
			return false
		}
	}
	return true
}

// TestAdd: P10.3, Add returns the constraints of the state and then the further one, whatever they are.
func TestAdd(t *testing.T) {
	l := []api.Subtrees{{}, trees("dns:a"), trees("! mail:a"), trees("dns:a"), trees("dir:CN=a,O=b 3:a ! dns: dns:"), {Permitted: refused(), Excluded: refused()}, trees("dns:a dns:A ! dns:a"), {Permitted: []api.GeneralName{}}}
	var st api.NameState
	for i, s := range l {
		st = subtree.Add(st, s)
		if want := (api.NameState{Constraints: l[:i+1]}); !identicalStates(st, want) {
			t.Errorf("Add returns %s, want %s", showTrees(st.Constraints...), showTrees(want.Constraints...))
		}
	}
	empty := subtree.Add(api.NameState{Constraints: []api.Subtrees{}}, l[1])
	if !identicalStates(empty, state("dns:a")) {
		t.Errorf("Add to an empty list returns %s", showTrees(empty.Constraints...))
	}
	given := subtree.Add(api.NameState{Constraints: l}, trees("dns:b"))
	if !identicalStates(given, api.NameState{Constraints: append(slices.Clone(l), trees("dns:b"))}) {
		t.Errorf("Add to a state that is written out returns %s", showTrees(given.Constraints...))
	}
}

// TestPermitsKnown: P10.3, states with their names that are permitted, and those that are not.
func TestPermitsKnown(t *testing.T) {
	for _, k := range []struct {
		what    string
		st      api.NameState
		yes, no string
	}{
		{"no constraint", state(), `mail:x@b dns:b dns:\2a.a.b dir: dir:O=x ip:0a010203 3:a 0: 2:a..b 1:`, ""},
		{"constraints without subtrees", state("", "", ""), "mail:x@b dns:b dir: ip:0a010203 3:a 0:", ""},
		{"the example of the chapter", state("dns:example.org", "dns:www.example.org"), "dns:www.example.org dns:WWW.Example.org dns:a.www.example.org mail:x@b mail:x@example.org dir:O=x ip:0a010203", "dns:example.org dns:mail.example.org dns:org dns:b"},
		{"the same constraints exchanged", state("dns:www.example.org", "dns:example.org"), "dns:www.example.org mail:x@b", "dns:example.org dns:mail.example.org"},

		{"one permitted DNS name", state("dns:a.b"), `dns:a.b dns:A.B dns:x.a.b dns:\2a.a.b dns:\2a.x.a.b mail:x@c dir: dir:O=x ip:0a010203`, `dns:b dns:xa.b dns:x.b dns:a.bc dns:\2a.b.c 2: 2:a..a.b`},
		{"one permitted mail address", state("mail:x@b"), "mail:x@b mail:x@B dns:a dir:", "mail:X@b mail:y@b mail:x@a.b mail:x@c 1:b 1:"},
		{"mail addresses of a name", state("mail:b"), "mail:x@b mail:X@B mail:b dns:c", "mail:x@a.b mail:x@c mail:.b 1:x 1:x@b@b"},
		{"mail addresses below a name", state("mail:.b"), "mail:x@a.b mail:x@A.B mail:x@c.a.b mail:a.b mail:.b", "mail:x@b mail:b mail:x@ab"},
		{"one permitted name", state("dir:O=x"), "dir:O=x dir:O=X dir:O=x,CN=a dns:a", "dir: dir:O=y dir:CN=a dir:CN=a,O=x dir:O=x+CN=a"},
		{"the empty name", state("dir:"), "dir: dir:O=x dir:CN=a,O=x", ""},
		{"the empty DNS name", state("dns:"), `dns:a dns:\2a.a.b 2: mail:x@b`, "2:a..b 2:*"},
		{"a range", state("ip:0a000000ff000000"), "ip:0a010203 ip:0a010000ffff0000 dns:a", "ip:0b010203 ip:0a000000000000000000000000000000 7: 7:abc"},
		{"all addresses with 4 bytes", state("ip:0000000000000000"), "ip:0a010203 ip:ffffffff", "ip:00000000000000000000000000000000"},

		{"one excluded DNS name", state("! dns:a.b"), "dns:b dns:x.b dns:c mail:x@a.b dir: 2:a..b 3:a.b", `dns:a.b dns:A.b dns:x.a.b dns:\2a.a.b`},
		{"excluded ones of all kinds", state("! mail:b dns:b dir:O=x ip:0a000000ff000000"), "mail:x@a.b dns:c dir: dir:O=y ip:0b000000 1: 2: 7:", "mail:x@b dns:b dns:a.b dir:O=x dir:O=x,CN=a ip:0a000000"},
		{"all of a kind", state("! dir:"), "mail:x@b dns:b ip:0a000000", "dir: dir:O=x"},

		{"within a permitted and an excluded one", state("dns:b ! dns:a.b"), "dns:b dns:c.b mail:x@a.b", "dns:a.b dns:x.a.b dns:c"},
		{"the excluded one is the greater one", state("dns:a.b ! dns:b"), "mail:x@a.b", "dns:a.b dns:x.a.b dns:b dns:c"},
		{"permitted and excluded ones that are the same", state("dns:a ! dns:A"), "mail:x@a", "dns:a dns:b.a dns:b"},
		{"permitted here and excluded there", state("dns:a.b", "! dns:a.b"), "mail:x@a", "dns:a.b dns:x.a.b dns:b"},
		{"excluded here and permitted there", state("! dns:a.b", "dns:b"), "dns:b dns:c.b", "dns:a.b dns:x.a.b dns:c"},
		{"excluded in the last one of several", state("dns:b", "", "mail:b", "! dns:a.b"), "dns:b mail:x@b", "dns:a.b mail:x@c dns:c"},

		{"two permitted ones in one constraint", state("dns:a dns:b"), "dns:a dns:b dns:x.a dns:x.b", "dns:c"},
		{"two permitted ones in two constraints", state("dns:a", "dns:b"), "mail:x@c", "dns:a dns:b dns:x.a dns:b.a dns:a.b dns:c"},
		{"nested ones in one constraint", state("dns:b dns:a.b"), "dns:b dns:a.b dns:c.b", "dns:c"},
		{"pairs in two constraints", state("dns:a dns:b dns:c", "dns:x.a dns:b"), "dns:x.a dns:b dns:y.x.a dns:y.b", "dns:a dns:y.a dns:c dns:x.c"},
		{"kinds in different constraints", state("dns:a", "mail:b", "dir:O=x"), "dns:a mail:x@b dir:O=x ip:0a000000", "dns:b mail:x@a dir:O=y"},
		{"a kind that only the second constraint limits", state("mail:b", "dns:a mail:b"), "dns:a mail:x@b ip:0a000000", "dns:b mail:x@c"},

		{"another kind is permitted", state("3:a"), "dns:a dns:b mail:x@b dir: ip:0a000000 5:a 0:", "3:a 3:b 3:"}, // there are subtrees of its kind, and nothing is within them
		{"another kind is excluded", state("! 3:a 0:"), "3:a 3:b 0: dns:a", ""},
		{"the kind 0", state("0:a dns:a"), "dns:a mail:x@b 3:a", "0: 0:a dns:b"},
		{"a permitted pattern", state("2:*.a.b"), "mail:x@b", `dns:x.a.b dns:a.b dns:\2a.a.b`}, // it is no base
		{"a pattern and a base", state("2:*.a.b dns:c"), "dns:c", "dns:x.a.b"},
		{"an excluded pattern", state("! 2:*.a.b"), `dns:x.a.b dns:\2a.a.b`, ""},
		{"an address as a range", state("ip:0a000000"), "dns:a", "ip:0a000000 ip:0b000000"},
		{"a text that is nothing", state("2:a..b"), "mail:x@b", "dns:b dns:a.b 2:a..b"},
	} {
		for want, l := range map[bool][]api.GeneralName{true: names(k.yes), false: names(k.no)} {
			for _, g := range l {
				if subtree.Permits(k.st, g) != want {
					t.Errorf("%s: Permits(%s, %s) is %v", k.what, showTrees(k.st.Constraints...), show(g), !want)
				}
				if modelPermits(k.st, g) != want {
					t.Errorf("%s: the model permits %s in %s: %v", k.what, show(g), showTrees(k.st.Constraints...), !want)
				}
			}
		}
	}
}

// TestPermitsOne: P10.3, every name and base with every constraint of one subtree, permitted or excluded.
func TestPermitsOne(t *testing.T) {
	all := slices.Concat(targets(), bases(), refused())
	for _, base := range all {
		permitted := api.NameState{Constraints: []api.Subtrees{{Permitted: []api.GeneralName{base}}}}
		excluded := api.NameState{Constraints: []api.Subtrees{{Excluded: []api.GeneralName{base}}}}
		for _, g := range all {
			within := gname.Within(g, base)
			if want := within || g.Kind != base.Kind; subtree.Permits(permitted, g) != want {
				t.Errorf("%s is permitted alone, and Permits of %s is %v", show(base), show(g), !want)
			}
			if subtree.Permits(excluded, g) == within {
				t.Errorf("%s is excluded alone, and Permits of %s is %v", show(base), show(g), within)
			}
		}
	}
}

// TestPermitsRandom: P10.3, states of several constraints of several subtrees, also of those that are refused, with all names.
func TestPermitsRandom(t *testing.T) {
	r := rand.New(rand.NewSource(4))
	all := slices.Concat(targets(), bases(), refused())
	seen := map[bool]int{}
	for i := range 3000 {
		l := all
		if i%2 == 0 {
			l = oneKind(all, fourKinds[r.Intn(4)])
		}
		st := randomState(r, l)
		for range 50 {
			g := l[r.Intn(len(l))]
			want := modelPermits(st, g)
			if subtree.Permits(st, g) != want {
				t.Fatalf("Permits(%s, %s) is %v", showTrees(st.Constraints...), show(g), !want)
			}
			seen[want]++
		}
	}
	if seen[true] < 1000 || seen[false] < 1000 {
		t.Errorf("Permits was %d times true and %d times false", seen[true], seen[false])
	}
}

// TestPermitsMany: P10.3 and R1, states with many more constraints and subtrees than certificates can have.
func TestPermitsMany(t *testing.T) {
	many := api.NameState{Constraints: slices.Repeat([]api.Subtrees{trees("dns:b dns:c ! dns:x.b")}, 10000)}
	wide := api.NameState{Constraints: []api.Subtrees{{Permitted: slices.Repeat(names("dns:a mail:b"), 10000), Excluded: slices.Repeat(names("dns:x.b"), 10000)}}}
	wide.Constraints[0].Permitted = append(wide.Constraints[0].Permitted, names("dns:b")...)
	for _, st := range []api.NameState{many, wide} {
		if !subtree.Permits(st, mustParse("dns:y.b")) || subtree.Permits(st, mustParse("dns:x.b")) || subtree.Permits(st, mustParse("dns:d")) {
			t.Error("a large state permits other names than its constraints")
		}
	}
	long := api.GeneralName{Kind: kindDNS, Text: strings.Repeat("a.", 1<<20)}
	if subtree.Permits(many, long) {
		t.Error("a text that is no DNS name is permitted")
	}
}

// modelPermitsAll is P10.4.
func modelPermitsAll(st api.NameState, subject api.Name, l []api.GeneralName) bool {
	all := slices.Clone(l)
	if len(subject.RDNs) != 0 {
		all = append(all, dirName(subject))
	}
	for _, r := range subject.RDNs {
		for _, a := range r {
			if a.Type == "1.2.840.113549.1.9.1" {
				all = append(all, api.GeneralName{Kind: kindMail, Text: a.Value})
			}
		}
	}
	return !slices.ContainsFunc(all, func(g api.GeneralName) bool { return !modelPermits(st, g) })
}

// TestPermitsAllKnown: P10.4, the subject, the mail addresses in it, and the alternative names, each of which alone is refused.
func TestPermitsAllKnown(t *testing.T) {
	two := name([]api.Attribute{attr("2.5.4.3", "a"), mailAttr("x@b")}, []api.Attribute{mailAttr("x@c")})
	none, wrong := mustName("O=x,E=here"), mustName("E=a b") // values that are no mail address; one of them is a base
	foreign := name([]api.Attribute{{Type: "1.2.840.113549.1.9.10", Kind: api.TagIA5, Value: "x@c"}, {Type: "2.5.4.3", Kind: api.TagIA5, Value: "x@d"}})
	for _, k := range []struct {
		what    string
		subject api.Name
		names   string
		st      api.NameState
		want    bool
	}{
		{"nothing", api.Name{}, "", state("dns:a mail:a dir:O=x ip:0a000000ff000000 ! dns: dir:"), true},
		{"a subject that is not nil", api.Name{RDNs: [][]api.Attribute{}}, "", state("dir:O=x"), true},
		{"no subject, where all names are excluded", api.Name{}, "", state("! dir:"), true},
		{"no subject as an alternative name", api.Name{}, "dir:", state("! dir:"), false}, {"no subject as an alternative name, with a permitted one", api.Name{}, "dir:", state("dir:O=x"), false},
		{"no constraint", two, "dns:a mail:x@b dir: ip:0a000000", state(), true},

		{"a permitted subject", mustName("O=x,CN=a"), "", state("dir:O=x"), true}, {"another subject", mustName("O=y,CN=a"), "", state("dir:O=x"), false}, {"an excluded subject", mustName("O=x,CN=a"), "", state("! dir:O=x"), false}, {"a subject, and all names are excluded", mustName("CN=a"), "", state("! dir:"), false}, {"an empty relative name", name(nil), "", state("dir:O=x"), false}, {"an empty relative name, without a limit", name(nil), "", state("! dir:O=x"), true},
		{"a subject, and other kinds are limited", mustName("O=x,CN=a"), "", state("dns:a mail:b ip:0a000000ff000000"), true}, {"a subject in the second constraint", mustName("O=x,CN=a"), "", state("dir:O=x", "dir:O=x,CN=b"), false},

		{"both mail addresses", two, "", state("mail:b mail:c"), true}, {"the first mail address alone", two, "", state("mail:b"), false}, {"the second mail address alone", two, "", state("mail:c"), false}, {"the first one is excluded", two, "", state("! mail:b"), false}, {"the second one is excluded", two, "", state("! mail:c"), false}, {"others are excluded", two, "", state("! mail:d mail:.b"), true}, {"the first one in the first constraint", two, "", state("mail:b mail:c", "mail:b"), false},
		{"mail addresses, and the subject is refused", two, "", state("dir:O=x mail:b mail:c"), false}, {"mail addresses, and the subject is permitted", two, "", state("dir:CN=a+E=x@b mail:b mail:c"), true}, {"mail addresses, and DNS names are limited", two, "", state("dns:d"), true},
		{"a value that is a base", none, "", state("mail:here"), true}, {"a value that is a base, elsewhere", none, "", state("mail:b"), false}, {"a value that is an excluded base", none, "", state("! mail:here"), false}, {"a value that is a base, without a limit", none, "", state("! mail:b"), true},
		{"a value that is no mail address", wrong, "", state("mail:b"), false}, {"a value that is no mail address, with many permitted ones", wrong, "", state("mail:a mail:.a mail:x@b"), false}, {"a value that is no mail address, without a limit", wrong, "", state("dns:b ! mail:b"), true},
		{"a value beside a permitted address", name([]api.Attribute{mailAttr("x@b")}, []api.Attribute{mailAttr("")}), "", state("mail:b"), false}, {"two attributes of one relative name", name([]api.Attribute{mailAttr("x@b"), mailAttr("x@c")}), "", state("mail:b"), false},
		{"mail addresses of other types", foreign, "", state("mail:b ! mail:c mail:d"), true},
		{"an address of another kind of string", name([]api.Attribute{{Type: "1.2.840.113549.1.9.1", Kind: 5, Value: "x@c"}}), "", state("mail:b"), false},

		{"permitted names", api.Name{}, "dns:a dns:b.a mail:x@a", state("dns:a mail:a"), true}, {"the first name is refused", api.Name{}, "dns:b dns:a dns:a", state("dns:a"), false}, {"the last name is refused", api.Name{}, "dns:a dns:a dns:b", state("dns:a"), false}, {"one in the middle is excluded", api.Name{}, "dns:a ip:0a000000 dns:b", state("! ip:0a000000ff000000"), false}, {"a name of another kind is limited", api.Name{}, "dns:a", state("mail:a"), true}, {"a name that is no name", api.Name{}, "2:a..b", state("dns:a"), false}, {"a name of another kind", api.Name{}, "3:a 0:", state("dns:a ! dns:b"), true},
		{"a subject and names", mustName("O=x,E=x@a"), "dns:a dir:O=x mail:y@a", state("dns:a mail:a dir:O=x"), true}, {"a subject that is refused, and names", mustName("O=y,E=x@a"), "dns:a dir:O=x mail:y@a", state("dns:a mail:a dir:O=x"), false}, {"a mail address that is refused, and names", mustName("O=x,E=x@b"), "dns:a dir:O=x mail:y@a", state("dns:a mail:a dir:O=x"), false}, {"a subject, and a name that is refused", mustName("O=x,E=x@a"), "dns:a dir:O=y mail:y@a", state("dns:a mail:a dir:O=x"), false},
	} {
		if subtree.PermitsAll(k.st, k.subject, names(k.names)) != k.want {
			t.Errorf("%s: PermitsAll(%s, %v, %s) is %v", k.what, showTrees(k.st.Constraints...), k.subject, k.names, !k.want)
		}
		if modelPermitsAll(k.st, k.subject, names(k.names)) != k.want {
			t.Errorf("%s: the model is %v", k.what, !k.want)
		}
	}
	if !subtree.PermitsAll(state("dir:O=x"), api.Name{}, []api.GeneralName{}) {
		t.Error("no names are refused")
	}
}

// TestPermitsAllRandom: P10.4, random subjects and names against the model.
func TestPermitsAllRandom(t *testing.T) {
	r := rand.New(rand.NewSource(5))
	seen := map[bool]int{}
	values := []string{"x@b", "X@b", "x@a.b", "y@a.b", "x@c", "b", ".b", "", "a b", "x@B"}
	for range 20000 {
		var subject api.Name
		for range r.Intn(3) {
			relative := [][]api.Attribute{cn("a"), {attr("2.5.4.10", "x")}, {attr("2.5.4.10", "x"), mailAttr(values[r.Intn(len(values))])}, {mailAttr(values[r.Intn(len(values))])}, nil}
			subject.RDNs = append(subject.RDNs, relative[r.Intn(len(relative))])
		}
		l := oneKind(bases(), []int{kindMail, kindMail, kindDirectory, kindDNS}[r.Intn(4)])
		st := randomState(r, l)
		alternative := pick(r, r.Intn(3), targets())
		want := modelPermitsAll(st, subject, alternative)
		if subtree.PermitsAll(st, subject, alternative) != want {
			t.Fatalf("PermitsAll(%s, %v, %s) is %v", showTrees(st.Constraints...), subject, show(alternative...), !want)
		}
		seen[want]++
	}
	if seen[true] < 1000 || seen[false] < 1000 {
		t.Errorf("PermitsAll was %d times true and %d times false", seen[true], seen[false])
	}
}
