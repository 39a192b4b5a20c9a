package subtree_test

import (
	"fmt"
	"math/rand"
	"slices"
	"strings"
	"testing"

	"certpath/api"
	"certpath/gname"
	"certpath/subtree"
)

// modelReduce is P10.5 for Reduce. It decides about each subtree alone, by those before it and by all constraints.
func modelReduce(st api.NameState) api.Reduced {
	var r api.Reduced
	var all, out []api.GeneralName
	for _, s := range st.Constraints {
		all = append(all, s.Permitted...)
		out = append(out, s.Excluded...)
	}
	for _, k := range fourKinds {
		if slices.ContainsFunc(all, func(g api.GeneralName) bool { return g.Kind == k }) {
			r.Limited = append(r.Limited, k)
		}
		for _, g := range oneKind(all, k) {
			in := true
			for _, s := range st.Constraints {
				l := oneKind(s.Permitted, k)
				in = in && (len(l) == 0 || slices.ContainsFunc(l, func(base api.GeneralName) bool { return gname.Within(g, base) }))
			}
			if in && !slices.ContainsFunc(r.Permitted, func(h api.GeneralName) bool { return gname.Same(g, h) }) {
				r.Permitted = append(r.Permitted, g)
			}
		}
	}
	for _, g := range out {
		if !slices.ContainsFunc(r.Excluded, func(h api.GeneralName) bool { return gname.Same(g, h) }) {
			r.Excluded = append(r.Excluded, g)
		}
	}
	return r
}

// modelPermitsReduced is P10.5 for PermitsReduced.
func modelPermitsReduced(r api.Reduced, g api.GeneralName) bool {
	for _, base := range r.Excluded {
		if gname.Within(g, base) {
			return false
		}
	}
	for _, base := range r.Permitted {
		if gname.Within(g, base) {
			return true
		}
	}
	return !slices.Contains(r.Limited, g.Kind)
}

// showReduced returns what an error says about a reduced state.
func showReduced(r api.Reduced) string {
	return fmt.Sprintf("%v %s", r.Limited, showTrees(api.Subtrees{Permitted: r.Permitted, Excluded: r.Excluded}))
}

// checkReduce compares Reduce with P10.5, and returns its result.
func checkReduce(t *testing.T, st api.NameState) api.Reduced {
	t.Helper()
	want := modelReduce(st)
	r := subtree.Reduce(st)
	if !identicalReduced(r, want) {
		t.Fatalf("Reduce(%s) is %s, want %s", showTrees(st.Constraints...), showReduced(r), showReduced(want))
	}
	return r
}

// TestReduceKnown: P10.5, states with their reduced states.
func TestReduceKnown(t *testing.T) {
	for _, k := range []struct {
		what    string
		st      api.NameState
		limited []int
		want    string // permitted ! excluded
	}{
		{"no constraint", state(), nil, ""},
		{"constraints without subtrees", state("", "", ""), nil, ""},
		{"one of each kind", state("ip:0a000000ff000000 dir:O=x dns:a mail:a"), []int{1, 2, 4, 7}, "mail:a dns:a dir:O=x ip:0a000000ff000000"},
		{"each kind in another constraint", state("dir:O=x", "ip:0a000000ff000000", "dns:a", "mail:a"), []int{1, 2, 4, 7}, "mail:a dns:a dir:O=x ip:0a000000ff000000"},
		{"two kinds", state("dns:b ip:0a000000ff000000 dns:a ip:0b000000ff000000"), []int{2, 7}, "dns:b dns:a ip:0a000000ff000000 ip:0b000000ff000000"},
		{"one kind in several constraints, once in Limited", state("dns:a", "dns:a", "dns:A"), []int{2}, "dns:a"},
		{"excluded ones do not limit", state("! dns:a mail:b dir:O=x ip:0a000000ff000000"), nil, "! dns:a mail:b dir:O=x ip:0a000000ff000000"},
		{"excluded ones beside permitted ones", state("dns:b ! dns:a.b mail:c", "mail:c ! dns:d"), []int{1, 2}, "mail:c dns:b ! dns:a.b mail:c dns:d"},
		{"excluded ones take no permitted ones away", state("dns:a.b ! dns:a.b", "! dns:"), []int{2}, "dns:a.b ! dns:a.b dns:"},

		{"nested ones in one constraint", state("dns:b dns:a.b dns:x.a.b"), []int{2}, "dns:b dns:a.b dns:x.a.b"},
		{"nested ones in one constraint, the other way round", state("dns:x.a.b dns:b dns:a.b"), []int{2}, "dns:x.a.b dns:b dns:a.b"},
		{"nested ones in two constraints", state("dns:b", "dns:a.b"), []int{2}, "dns:a.b"},
		{"nested ones in two constraints, exchanged", state("dns:a.b", "dns:b"), []int{2}, "dns:a.b"},
		{"nested ones in three constraints", state("dns:a.b", "dns:b", "dns:x.a.b"), []int{2}, "dns:x.a.b"},
		{"nested ones in three constraints, several in each", state("dns:b dns:c", "dns:a.b dns:d dns:c", "dns:x.a.b dns:b dns:a.c"), []int{2}, "dns:a.b dns:x.a.b dns:a.c"},
		{"only in two of three constraints", state("dns:a", "dns:a dns:b", "dns:b"), []int{2}, ""},
		{"a kind that is missing in a constraint", state("dns:b", "mail:c", "dns:a.b"), []int{1, 2}, "mail:c dns:a.b"},

		{"the same ones in one constraint", state("dns:a dns:a dns:A"), []int{2}, "dns:a"},
		{"the same ones in another case first", state("dns:A dns:a", "dns:a"), []int{2}, "dns:A"},
		{"the same ones in several constraints, in the order of the first ones", state("dns:A dns:b", "dns:B dns:a"), []int{2}, "dns:A dns:b"},
		{"the same names in different kinds", state("mail:a dns:a ! mail:a dns:a"), []int{1, 2}, "mail:a dns:a ! mail:a dns:a"},
		{"mail addresses in another case", state("mail:x@b mail:X@b mail:x@B"), []int{1}, "mail:x@b mail:X@b"},
		{"the same excluded ones", state("! dns:a mail:a dns:A", "! mail:A dns:b dns:a"), nil, "! dns:a mail:a dns:b"},
		{"nested excluded ones", state("! dns:b dns:a.b", "! dns:x.a.b"), nil, "! dns:b dns:a.b dns:x.a.b"},
		{"the same names", state("dir:O=x,CN=a dir:O=X,CN=A ! dir:O=x+CN=a", "dir:O=X ! dir:CN=A+O=X"), []int{4}, "dir:O=x,CN=a ! dir:O=x+CN=a"},

		{"apart in one constraint", state("dns:a dns:b dns:c"), []int{2}, "dns:a dns:b dns:c"},
		{"apart in two constraints", state("dns:a", "dns:b"), []int{2}, ""},
		{"apart in two constraints, and excluded ones", state("mail:a ! mail:c", "mail:b ! mail:C mail:d"), []int{1}, "! mail:c mail:d"},
		{"apart, with another kind", state("mail:a dns:b dns:a.b", "mail:b dns:c", "dns:c"), []int{1, 2}, ""},
		{"addresses of two sizes", state("ip:0000000000000000", "ip:"+strings.Repeat("00", 32)), []int{7}, ""},
		{"mail bases: a name and those below it", state("mail:b", "mail:.b"), []int{1}, ""},
		{"mail bases: those below a name and one of them", state("mail:.b", "mail:x@a.b mail:a.b mail:b"), []int{1}, "mail:x@a.b mail:a.b"},
		{"ranges", state("ip:0a000000ff000000 ip:0b000000ff000000", "ip:0a010000ffff0000 ip:0000000000000000"), []int{7}, "ip:0a000000ff000000 ip:0b000000ff000000 ip:0a010000ffff0000"},
		{"names", state("dir:O=x dir:", "dir:O=x,CN=a dir:O=y"), []int{4}, "dir:O=x,CN=a dir:O=y"},

		{"another kind", state("3:a dns:a 3:a 0:b ! 3:a 3:a 5:b"), []int{2}, "dns:a ! 3:a 3:a 5:b"}, // gname.Same is false for them
		{"another kind alone", state("3:a", "0:", "9:"), nil, ""},
		{"a pattern that is permitted", state("2:*.a.b"), []int{2}, ""}, // it is no base, so that it is not within itself
		{"a pattern within a base of its constraint", state("2:*.a.b dns:a.b"), []int{2}, `dns:\2a.a.b dns:a.b`},
		{"a pattern within a base of another constraint", state("2:*.a.b", "dns:a.b"), []int{2}, ""},
		{"a pattern twice", state("dns:a.b 2:*.a.b 2:*.A.b ! 2:*.a.b 2:*.A.b"), []int{2}, `dns:a.b dns:\2a.a.b ! 2:*.a.b`},
		{"texts that are nothing", state("2:a..b mail:b 1:@ ! 2:a..b 2:A..b 1:a"), []int{1, 2}, "mail:b ! 2:a..b mail:a"},
		{"an address in a range", state("ip:0a000000ff000000 ip:0a010203", "ip:0a010000ffff0000"), []int{7}, "ip:0a010203 ip:0a010000ffff0000"},
	} {
		permitted, excluded, _ := strings.Cut(k.want, "!")
		want := api.Reduced{Limited: k.limited, Permitted: names(permitted), Excluded: names(excluded)}
		if r := subtree.Reduce(k.st); !identicalReduced(r, want) {
			t.Errorf("%s: Reduce(%s) is %s, want %s", k.what, showTrees(k.st.Constraints...), showReduced(r), showReduced(want))
		}
		checkReduce(t, k.st)
	}
}

// TestReduceFirst: P10.5, of the subtrees that are the same the first one is left as it is, with its attributes and its parts that play no role.
func TestReduceFirst(t *testing.T) {
	one := dirName(name([]api.Attribute{attr("2.5.4.10", "X  y"), {Type: "2.5.4.3", Kind: api.TagUTF8, Value: "A"}}))
	two := dirName(name([]api.Attribute{attr("2.5.4.3", " a"), attr("2.5.4.10", "x Y")}))
	odd := api.GeneralName{Kind: kindDNS, Text: "A.b", Name: name(cn("c"))}
	even := mustParse("dns:a.B")
	for _, l := range [][]api.GeneralName{{one, two}, {two, one}, {odd, even}, {even, odd}} {
		for _, st := range []api.NameState{{Constraints: []api.Subtrees{{Permitted: l, Excluded: l}}}, {Constraints: []api.Subtrees{{Permitted: l[:1], Excluded: l[:1]}, {Permitted: l[1:], Excluded: l[1:]}}}} {
			want := api.Reduced{Limited: []int{l[0].Kind}, Permitted: l[:1], Excluded: l[:1]}
			if r := subtree.Reduce(st); !identicalReduced(r, want) {
				t.Errorf("Reduce(%s) is %s, want %s", showTrees(st.Constraints...), showReduced(r), showReduced(want))
			}
		}
	}
}

// TestReducePairs: P10.5, every two permitted subtrees in one constraint and in two, also those that are refused.
func TestReducePairs(t *testing.T) {
	all := slices.Concat(bases(), targets(), refused())
	for _, a := range all {
		for _, b := range all {
			one := api.Subtrees{Permitted: []api.GeneralName{a, b}, Excluded: []api.GeneralName{b, a}}
			checkReduce(t, api.NameState{Constraints: []api.Subtrees{one}})
			checkReduce(t, api.NameState{Constraints: []api.Subtrees{{Permitted: []api.GeneralName{a}}, {Permitted: []api.GeneralName{b}, Excluded: []api.GeneralName{a}}}})
		}
	}
}

// TestReduceRandom: P10.5, states of several constraints of one kind and of all kinds.
func TestReduceRandom(t *testing.T) {
	r := rand.New(rand.NewSource(6))
	all := slices.Concat(bases(), bases(), targets(), refused())
	left := map[bool]int{}
	for i := range 6000 {
		l := all
		if i%2 == 0 {
			l = oneKind(all, fourKinds[r.Intn(4)])
		}
		reduced := checkReduce(t, randomState(r, l))
		left[len(reduced.Permitted) > 0]++
	}
	if left[true] < 1000 || left[false] < 1000 {
		t.Errorf("permitted subtrees were left %d times, and none %d times", left[true], left[false])
	}
}

// TestPermitsReducedKnown: P10.5, reduced states that are written out, also those that Reduce does not return.
func TestPermitsReducedKnown(t *testing.T) {
	for _, k := range []struct {
		what    string
		limited []int
		lists   string // permitted ! excluded
		yes, no string
	}{
		{"nothing", nil, "", `mail:x@b dns:b dns:\2a.a.b dir: ip:0a000000 3:a 0: 2:a..b`, ""},
		{"a permitted one", []int{2}, "dns:a", "dns:a dns:b.a dns:A mail:x@b 3:a", "dns:b 2: 2:b..a"},
		{"two permitted ones", []int{2}, "dns:a dns:b", "dns:a dns:b dns:x.b mail:x@c", "dns:c"},
		{"permitted ones of two kinds", []int{1, 2}, "mail:a dns:b", "mail:x@a dns:b dir:O=x", "mail:x@b dns:a"},
		{"all kinds", []int{1, 2, 4, 7}, "mail:a dns:a dir:O=x ip:0a000000ff000000", "mail:x@a dns:a dir:O=x ip:0a010101 3:a", "mail:x@b dns:b dir: dir:O=y ip:0b010101"},
		{"a kind without permitted ones", []int{2}, "", "mail:x@b 3:a dir:", "dns:a dns:b 2: 2:a..b"},
		{"two kinds, one without permitted ones", []int{2, 4}, "dir:O=x", "dir:O=x mail:x@b", "dir:O=y dns:a"},
		{"all kinds without permitted ones", []int{1, 2, 4, 7}, "", "3:a 0:", "mail:x@b dns:b dir: ip:0a000000"},
		{"excluded ones", nil, "! dns:a mail:b", "dns:b mail:x@a dir:", "dns:a dns:x.a mail:x@b"},
		{"within a permitted and an excluded one", []int{2}, "dns:b ! dns:a.b", "dns:b dns:c.b", "dns:a.b dns:x.a.b dns:c"},
		{"permitted and excluded", []int{2}, "dns:b ! dns:B", "mail:x@b", "dns:b dns:a.b dns:c"},
		{"a kind without permitted ones, and excluded ones", []int{2}, "! dns:a mail:a", "mail:x@b", "dns:a dns:b mail:x@a"},

		{"permitted ones of a kind that is not limited", nil, "dns:a", "dns:a dns:b mail:x@b", ""},
		{"permitted ones of another kind than the limited one", []int{1}, "dns:a", "dns:a dns:b dir:", "mail:x@a mail:x@b"},
		{"the order of Limited, and numbers twice", []int{4, 2, 2}, "dns:a dir:O=x", "dns:a dir:O=x mail:x@b", "dns:b dir:O=y"},
		{"numbers that are none of the four", []int{0, 3, 1 << 32, -1}, "3:a 0:", "dns:a mail:x@b 5:a", "3:a 0: 3:b"},
		{"a pattern", []int{2}, "2:*.a.b", "mail:x@b", `dns:x.a.b dns:\2a.a.b`},
	} {
		s := trees(k.lists)
		r := api.Reduced{Limited: k.limited, Permitted: s.Permitted, Excluded: s.Excluded}
		for want, l := range map[bool][]api.GeneralName{true: names(k.yes), false: names(k.no)} {
			for _, g := range l {
				if subtree.PermitsReduced(r, g) != want {
					t.Errorf("%s: PermitsReduced(%s, %s) is %v", k.what, showReduced(r), show(g), !want)
				}
			}
		}
	}
}

// TestPermitsReducedRandom: P10.5, any reduced states against the model.
func TestPermitsReducedRandom(t *testing.T) {
	r := rand.New(rand.NewSource(7))
	all := slices.Concat(bases(), targets(), refused())
	seen := map[bool]int{}
	for range 4000 {
		reduced := api.Reduced{Permitted: pick(r, 6, all), Excluded: pick(r, r.Intn(4), all)}
		for _, k := range append(slices.Clone(fourKinds), 0, 3) {
			if r.Intn(2) == 0 {
				reduced.Limited = append(reduced.Limited, k)
			}
		}
		for range 40 {
			g := all[r.Intn(len(all))]
			want := modelPermitsReduced(reduced, g)
			if subtree.PermitsReduced(reduced, g) != want {
				t.Fatalf("PermitsReduced(%s, %s) is %v", showReduced(reduced), show(g), !want)
			}
			seen[want]++
		}
	}
	if seen[true] < 1000 || seen[false] < 1000 {
		t.Errorf("PermitsReduced was %d times true and %d times false", seen[true], seen[false])
	}
}
