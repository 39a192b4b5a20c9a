package subtree_test

import (
	"fmt"
	"slices"
	"testing"

	"certpath/api"
	"certpath/subtree"
)

// overwriteNames changes everything in the memory of general names, also behind them, except for strings.
func overwriteNames(l []api.GeneralName) {
	for i := range l {
		for k, r := range l[i].Name.RDNs {
			for m := range r[:cap(r)] {
				r[:cap(r)][m] = attr("1.2.3", "overwritten")
			}
			l[i].Name.RDNs[k] = nil
		}
	}
	for i := range l[:cap(l)] {
		l[:cap(l)][i] = api.GeneralName{Kind: kindDNS, Text: "overwritten"}
	}
}

// overwriteState changes everything in the memory of a state.
func overwriteState(st api.NameState) {
	for i, s := range st.Constraints {
		overwriteNames(s.Permitted)
		overwriteNames(s.Excluded)
		st.Constraints[i] = trees("dns:overwritten")
	}
}

// rooms returns a copy of st in which every slice has room for more, which holds something.
func rooms(st api.NameState) api.NameState {
	c := cloneState(st)
	room := func(l []api.GeneralName) []api.GeneralName {
		for i, g := range l {
			for k, r := range g.Name.RDNs {
				g.Name.RDNs[k] = append(slices.Clone(r), attr("1.2.3", "behind"))[:len(r)]
			}
			l[i].Name.RDNs = append(slices.Clone(g.Name.RDNs), cn("behind"))[:len(g.Name.RDNs)]
		}
		return append(slices.Clone(l), mustParse("dns:behind"))[:len(l)]
	}
	for i, s := range c.Constraints {
		c.Constraints[i] = api.Subtrees{Permitted: room(s.Permitted), Excluded: room(s.Excluded)}
	}
	c.Constraints = append(c.Constraints, trees("dns:behind"))[:len(st.Constraints)]
	return c
}

// behind returns what is in the room behind the constraints of a state, and behind their subtrees.
func behind(st api.NameState) string {
	all := ""
	for _, s := range st.Constraints[:cap(st.Constraints)] {
		all += showTrees(s) + fmt.Sprint(s.Permitted[:cap(s.Permitted)], s.Excluded[:cap(s.Excluded)])
	}
	return all
}

// someStates are states of each kind of constraint.
func someStates() []api.NameState {
	return []api.NameState{
		state(), state(""), state("dns:a"), state("dns:a dns:A ! dns:b", "mail:b dns:x.a", "! dir:O=x,CN=a"), state("dir:O=x,CN=a dir:CN=a+O=x dir: ! dir:O=x+CN=a", "dir:O=X", "dir:O=x,CN=a"),
		{Constraints: []api.Subtrees{{Permitted: refused(), Excluded: refused()}, {Permitted: bases(), Excluded: bases()}}},
	}
}

// results returns what all functions that have a state as argument return, as one text.
func results(st api.NameState) string {
	all := ""
	for _, s := range st.Constraints {
		b, err := subtree.Encode(s)
		all += fmt.Sprintf("%d %x %d %v ", subtree.Check(s), b, err, subtree.Add(api.NameState{}, s))
	}
	l := append(targets(), refused()...)
	for _, g := range l {
		all += fmt.Sprint(subtree.Permits(st, g), " ")
	}
	subject := mustName("O=x,CN=a+E=x@b")
	reduced := subtree.Reduce(st)
	all += fmt.Sprint(subtree.PermitsAll(st, subject, l), subtree.PermitsAll(st, subject, nil), subtree.PermitsAll(st, api.Name{}, l), reduced)
	for _, g := range l {
		all += fmt.Sprint(subtree.PermitsReduced(reduced, g), " ")
	}
	return all + fmt.Sprint(subtree.Add(st, trees("dns:a ! dir:O=x")))
}

// TestKeepsStates: R3 and R4, no function changes states or what is behind them, or keeps them.
func TestKeepsStates(t *testing.T) {
	for _, st := range someStates() {
		given := rooms(st)
		before := behind(given)
		want := results(given)
		if !identicalStates(given, st) || behind(given) != before {
			t.Errorf("%s is %s after the calls, and with what is behind it %.1000s, want %.1000s", showTrees(st.Constraints...), showTrees(given.Constraints...), behind(given), before)
		}
		if results(st) != want {
			t.Errorf("the results for %s depend on the room behind it", showTrees(st.Constraints...))
		}
		overwriteState(given)
		if results(st) != want {
			t.Errorf("the results for %s depend on the memory of calls before", showTrees(st.Constraints...))
		}
	}
}

// TestKeepsNames: R3, PermitsAll changes neither the subject nor the names, nor what is behind them, and PermitsReduced neither the reduced state nor the name.
func TestKeepsNames(t *testing.T) {
	memory := append(targets(), mustParse("dns:behind"))
	l := memory[: len(memory)-1 : len(memory)]
	subject := mustName("E=x@b,CN=a,O=x")
	for _, st := range someStates() {
		subtree.PermitsAll(st, subject, l)
		subtree.PermitsAll(st, subject, l[:0])
		reduced := subtree.Reduce(st)
		reduced.Limited = []int{7, 2, 1}
		kept := api.Reduced{Limited: slices.Clone(reduced.Limited), Permitted: cloneNames(reduced.Permitted), Excluded: cloneNames(reduced.Excluded)}
		for _, g := range l {
			subtree.PermitsReduced(reduced, g)
		}
		if !identicalReduced(reduced, kept) {
			t.Errorf("%s is %s after PermitsReduced", showReduced(kept), showReduced(reduced))
		}
	}
	if !identicalNames(l, targets()) || !identical(memory[len(l)], mustParse("dns:behind")) || !identical(dirName(subject), dirName(mustName("E=x@b,CN=a,O=x"))) {
		t.Errorf("the names are %v and %s after the calls", subject, show(memory...))
	}
}

// TestAddNew: R3, the result of Add shares no memory with the state, the constraint, or other results, and its parts share none with one another.
func TestAddNew(t *testing.T) {
	for _, st := range someStates() {
		for _, further := range append(slices.Concat(someStates()[3].Constraints, someStates()[4].Constraints), api.Subtrees{}) {
			want := cloneState(api.NameState{Constraints: append(slices.Clone(st.Constraints), further)})
			given, s := rooms(st), cloneTrees(further)
			first, second := subtree.Add(given, s), subtree.Add(given, trees("dns:second"))
			if !identicalStates(first, want) || !identicalStates(given, st) {
				t.Errorf("Add(%s, %s) is %s", showTrees(st.Constraints...), showTrees(further), showTrees(first.Constraints...))
			}
			overwriteState(second)
			overwriteState(given)
			overwriteState(api.NameState{Constraints: []api.Subtrees{s}})
			if !identicalStates(first, want) {
				t.Errorf("%s is %s after a change of the arguments and of another result", showTrees(want.Constraints...), showTrees(first.Constraints...))
			}
			checkApart(t, first)
		}
	}
}

// TestAddTwice: R3 and R5, two states made from one, which has room behind its constraints, are independent, and so are states that are made from results.
func TestAddTwice(t *testing.T) {
	given := api.NameState{Constraints: make([]api.Subtrees, 0, 8)}
	for _, s := range []string{"dns:a", "mail:b"} {
		given.Constraints = append(given.Constraints, trees(s))
	}
	first := subtree.Add(given, trees("dns:first"))
	second := subtree.Add(given, trees("dns:second"))
	if !identicalStates(first, state("dns:a", "mail:b", "dns:first")) || !identicalStates(second, state("dns:a", "mail:b", "dns:second")) {
		t.Errorf("the two states are %s and %s", showTrees(first.Constraints...), showTrees(second.Constraints...))
	}
	if rest := given.Constraints[:cap(given.Constraints)][2:]; slices.ContainsFunc(rest, func(s api.Subtrees) bool { return !none(s) }) {
		t.Errorf("behind the constraints is %s", showTrees(rest...))
	}
	third, fourth := subtree.Add(first, trees("dns:third")), subtree.Add(first, trees("dns:fourth"))
	if !identicalStates(third, state("dns:a", "mail:b", "dns:first", "dns:third")) || !identicalStates(fourth, state("dns:a", "mail:b", "dns:first", "dns:fourth")) {
		t.Errorf("the states made from a result are %s and %s", showTrees(third.Constraints...), showTrees(fourth.Constraints...))
	}
}

// TestAddSameMemory: R3, a constraint that shares memory with the state, or with itself, is copied.
func TestAddSameMemory(t *testing.T) {
	l := names("dir:O=x,CN=a dns:a")
	s := api.Subtrees{Permitted: l, Excluded: l}
	st := subtree.Add(api.NameState{Constraints: []api.Subtrees{s, s}}, s)
	want := api.NameState{Constraints: []api.Subtrees{cloneTrees(s), cloneTrees(s), cloneTrees(s)}}
	if !identicalStates(st, want) {
		t.Errorf("Add returns %s", showTrees(st.Constraints...))
	}
	checkApart(t, st)
	reduced := subtree.Reduce(st)
	excluded := cloneNames(reduced.Excluded)
	overwriteNames(reduced.Permitted)
	if !identicalNames(reduced.Excluded, excluded) {
		t.Errorf("%s is %s after a change of Permitted", show(excluded...), show(reduced.Excluded...))
	}
}

// checkApart checks that what is written into a list of a state, or behind it, changes no other one.
func checkApart(t *testing.T, st api.NameState) {
	t.Helper()
	want := cloneState(st)
	for i := range st.Constraints {
		overwriteNames(st.Constraints[i].Permitted)
		st.Constraints[i].Permitted = cloneNames(want.Constraints[i].Permitted)
		if !identicalStates(st, want) {
			t.Errorf("the permitted subtrees %d of %s share memory with others", i, showTrees(want.Constraints...))
			return
		}
		overwriteNames(st.Constraints[i].Excluded)
		st.Constraints[i].Excluded = cloneNames(want.Constraints[i].Excluded)
		if !identicalStates(st, want) {
			t.Errorf("the excluded subtrees %d of %s share memory with others", i, showTrees(want.Constraints...))
			return
		}
	}
}

// TestReduceNew: R3, the result of Reduce shares no memory with the state or with other results, and its parts share none with one another.
func TestReduceNew(t *testing.T) {
	for _, st := range someStates() {
		given := rooms(st)
		want := modelReduce(cloneState(st))
		first, second := subtree.Reduce(given), subtree.Reduce(given)
		overwriteState(given)
		overwriteNames(second.Permitted)
		overwriteNames(second.Excluded)
		clear(second.Limited)
		if !identicalReduced(first, want) {
			t.Errorf("%s is %s after a change of the state and of another result", showReduced(want), showReduced(first))
		}
		third := subtree.Reduce(st)
		overwriteNames(third.Permitted)
		if !identicalNames(third.Excluded, want.Excluded) || !slices.Equal(third.Limited, want.Limited) {
			t.Errorf("%s is %s after a change of Permitted", showReduced(want), showReduced(third))
		}
		if len(first.Limited) > 0 {
			clear(first.Limited[:cap(first.Limited)])
			if again := subtree.Reduce(st); !identicalReduced(again, want) {
				t.Errorf("%s is %s after a change of Limited", showReduced(want), showReduced(again))
			}
		}
	}
}

// TestDecodeNew: R3, results of Decode share no memory with later ones, and their parts share none with one another.
func TestDecodeNew(t *testing.T) {
	for _, b := range wholes(t) {
		first, _ := subtree.Decode(b)
		second, _ := subtree.Decode(b)
		want := cloneTrees(first)
		overwriteState(api.NameState{Constraints: []api.Subtrees{second}})
		if third, err := subtree.Decode(b); !identicalTrees(first, want) || !identicalTrees(third, want) || err != api.OK {
			t.Errorf("%s is %s and %s after a change of another result", showTrees(want), showTrees(first), showTrees(third))
		}
		checkApart(t, api.NameState{Constraints: []api.Subtrees{first}})
	}
}
