package subtree_test

import (
	"math/rand"
	"slices"
	"testing"

	"certpath/api"
	"certpath/gname"
	"certpath/subtree"
)

// validState returns a state of up to five constraints that Check accepts, of one kind or of all kinds.
func validState(t *testing.T, r *rand.Rand, kind int) api.NameState {
	t.Helper()
	l := bases()
	if kind != 0 {
		l = oneKind(l, kind)
	}
	var st api.NameState
	for range r.Intn(6) {
		s := api.Subtrees{Permitted: pick(r, 6, l), Excluded: pick(r, r.Intn(3), l)}
		if none(s) {
			s.Excluded = l[:1]
		}
		if err := subtree.Check(s); err != api.OK {
			t.Fatalf("Check(%s) is %d", showTrees(s), err)
		}
		st.Constraints = append(st.Constraints, s)
	}
	return st
}

// permittedOf returns which of l are permitted by a state, and checks that they are the same ones for its reduced state.
func permittedOf(t *testing.T, st api.NameState, l []api.GeneralName) []bool {
	t.Helper()
	reduced := subtree.Reduce(st)
	var yes []bool
	for _, g := range l {
		p := subtree.Permits(st, g)
		if subtree.PermitsReduced(reduced, g) != p {
			t.Fatalf("%s is permitted by %s: %v, but by %s: %v", show(g), showTrees(st.Constraints...), p, showReduced(reduced), !p)
		}
		yes = append(yes, p)
	}
	return yes
}

// validNames returns names that gname.Check accepts.
func validNames(t *testing.T) []api.GeneralName {
	t.Helper()
	l := targets()
	for _, g := range l {
		if err := gname.Check(g, false); err != api.OK {
			t.Fatalf("%s has the error %d", show(g), err)
		}
	}
	return l
}

// TestReducedPermitsSame: P10.6, over many states: PermitsReduced of Reduce is Permits for every name, and in no order of the constraints another one is permitted.
func TestReducedPermitsSame(t *testing.T) {
	r := rand.New(rand.NewSource(8))
	all := validNames(t)
	seen := map[bool]int{}
	for i := range 2000 {
		kind := append(fourKinds, 0)[i%5]
		st := validState(t, r, kind)
		l := all
		if kind != 0 {
			l = oneKind(all, kind)
		}
		want := permittedOf(t, st, l)
		for range 3 {
			shuffled := cloneState(st)
			r.Shuffle(len(shuffled.Constraints), func(i, j int) {
				shuffled.Constraints[i], shuffled.Constraints[j] = shuffled.Constraints[j], shuffled.Constraints[i]
			})
			if got := permittedOf(t, shuffled, l); !slices.Equal(got, want) {
				t.Fatalf("%s and %s permit different names", showTrees(st.Constraints...), showTrees(shuffled.Constraints...))
			}
		}
		for _, yes := range want {
			seen[yes]++
		}
	}
	if seen[true] < 5000 || seen[false] < 5000 {
		t.Errorf("names were permitted %d times, and refused %d times", seen[true], seen[false])
	}
}

// TestReducedPairs: P10.6, every two bases of a kind as the permitted ones of two constraints, in both orders, and as the permitted one and the excluded one.
func TestReducedPairs(t *testing.T) {
	all := validNames(t)
	for _, a := range bases() {
		l := oneKind(all, a.Kind)
		for _, b := range oneKind(bases(), a.Kind) {
			first, second := api.Subtrees{Permitted: []api.GeneralName{a}}, api.Subtrees{Permitted: []api.GeneralName{b}}
			out := api.Subtrees{Excluded: []api.GeneralName{b}}
			both := permittedOf(t, api.NameState{Constraints: []api.Subtrees{first, second}}, l)
			if !slices.Equal(both, permittedOf(t, api.NameState{Constraints: []api.Subtrees{second, first}}, l)) {
				t.Errorf("%s and %s permit different names in another order", show(a), show(b))
			}
			outside := permittedOf(t, api.NameState{Constraints: []api.Subtrees{first, out}}, l)
			for i, g := range l {
				if both[i] != (gname.Within(g, a) && gname.Within(g, b)) || outside[i] != (gname.Within(g, a) && !gname.Within(g, b)) {
					t.Errorf("%s is permitted by %s and %s: %v, and with the second one excluded: %v", show(g), show(a), show(b), both[i], outside[i])
				}
			}
		}
	}
}

// TestAddPermitsNoMore: P10.6, a further constraint permits no name that was not permitted, and neither does its reduced state.
func TestAddPermitsNoMore(t *testing.T) {
	r := rand.New(rand.NewSource(9))
	all := validNames(t)
	lost := 0
	for i := range 1000 {
		st := api.NameState{}
		before := permittedOf(t, st, all)
		further := api.Subtrees{Permitted: append(pick(r, 3, bases()), mustParse("mail:b"))}
		for _, s := range append(validState(t, r, append(fourKinds, 0)[i%5]).Constraints, trees("dns:a"), further) {
			st = subtree.Add(st, s)
			after := permittedOf(t, st, all)
			for k, g := range all {
				if after[k] && !before[k] {
					t.Fatalf("%s is permitted only with the last one of %s", show(g), showTrees(st.Constraints...))
				}
				if before[k] && !after[k] {
					lost++
				}
			}
			before = after
		}
	}
	if lost < 1000 {
		t.Errorf("only %d times a further constraint refused a name", lost)
	}
}

// TestAddPermitsNoMoreAll: P10.6, the same for all names of a certificate, and for constraints that are refused.
func TestAddPermitsNoMoreAll(t *testing.T) {
	r := rand.New(rand.NewSource(10))
	all := slices.Concat(bases(), targets(), refused())
	for range 1000 {
		st := randomState(r, all)
		further := subtree.Add(st, api.Subtrees{Permitted: pick(r, 3, all), Excluded: pick(r, 2, all)})
		subject := mustName([]string{"", "O=x", "O=x,CN=a", "O=y,E=x@b", "E=x@a.b+CN=a"}[r.Intn(5)])
		l := pick(r, 2, all)
		if subtree.PermitsAll(further, subject, l) && !subtree.PermitsAll(st, subject, l) {
			t.Fatalf("%v and %s are permitted only with the last one of %s", subject, show(l...), showTrees(further.Constraints...))
		}
	}
}
