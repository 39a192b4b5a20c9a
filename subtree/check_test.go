package subtree_test

import (
	"math/rand"
	"slices"
	"testing"

	"certpath/api"
	"certpath/gname"
	"certpath/subtree"
)

// modelCheck is P10.1: all errors are noted in their order.
func modelCheck(s api.Subtrees) api.Errno {
	var found []api.Errno
	if len(s.Permitted)+len(s.Excluded) == 0 {
		found = append(found, api.ErrValue)
	}
	if max(len(s.Permitted), len(s.Excluded)) > 16 {
		found = append(found, api.ErrLimit)
	}
	for _, g := range slices.Concat(s.Permitted, s.Excluded) {
		if err := gname.Check(g, true); err != api.OK {
			found = append(found, err)
		}
	}
	return append(found, api.OK)[0]
}

// checked compares Check with an expected error, and Encode with it: it returns the error of Check, and nothing else then.
func checked(t *testing.T, what string, s api.Subtrees, want api.Errno) {
	t.Helper()
	if err := subtree.Check(s); err != want {
		t.Errorf("%s: Check(%s) is %d, want %d", what, showTrees(s), err, want)
	}
	if b, err := subtree.Encode(s); err != want || (b == "") != (want != api.OK) {
		t.Errorf("%s: Encode(%s) is %.200q, %d, want error %d", what, showTrees(s), b, err, want)
	}
}

// TestCheckKnown: P10.1, ordinary constraints, and each error alone.
func TestCheckKnown(t *testing.T) {
	for _, k := range []struct {
		what, s string
		want    api.Errno
	}{
		{"one permitted", "dns:example.org", api.OK}, {"one excluded", "! dns:example.org", api.OK}, {"one of both", "dns:example.org ! dns:www.example.org", api.OK},
		{"no subtrees", "", api.ErrValue},
		{"the empty DNS base", "dns:", api.OK}, {"the empty name", "dir:", api.OK}, {"all bases of mail addresses", "mail:x@b mail:b mail:.b", api.OK}, {"ranges", "ip:0a000000ff000000 ! ip:0000000000000000", api.OK}, {"all kinds", "mail:b dns:b dir:O=x ip:0a000000ff000000 ! mail:c dns:c dir:O=y ip:0b000000ff000000", api.OK},
		{"the same one twice", "dns:b dns:b ! dns:b dns:B", api.OK},
		{"a pattern", `dns:\2a.a.b`, api.ErrName}, {"a pattern that is excluded", `! dns:\2a.a.b`, api.ErrName}, {"an address", "ip:0a010203", api.ErrName}, {"an address that is excluded", "dns:a ! ip:0a010203", api.ErrName},
		{"no mail base", "1:", api.ErrName}, {"a point before a DNS base", "2:.b", api.ErrName}, {"a mask with a gap", "7:abcdefgh", api.ErrName}, {"a name with a text", "4:a", api.ErrName},
		{"another kind", "3:a", api.ErrName}, {"the kind 0", "0:", api.ErrName}, {"the kind 0 that is excluded", "! 0:", api.ErrName}, {"another kind behind a base", "dns:a 3:a", api.ErrName}, {"another kind that is excluded", "dns:a ! dns:a 3:a dns:b", api.ErrName},
	} {
		checked(t, k.what, trees(k.s), k.want)
	}
	checked(t, "empty lists", api.Subtrees{Permitted: []api.GeneralName{}, Excluded: []api.GeneralName{}}, api.ErrValue)
	checked(t, "an empty list and an excluded one", api.Subtrees{Permitted: []api.GeneralName{}, Excluded: names("dns:a")}, api.OK)
	for want, g := range bad {
		checked(t, "a name with an error", api.Subtrees{Permitted: []api.GeneralName{g}}, want)
		checked(t, "an excluded name with an error", api.Subtrees{Excluded: []api.GeneralName{g}}, want)
	}
	for _, g := range refused() {
		checked(t, "a permitted one that is refused", api.Subtrees{Permitted: []api.GeneralName{g}}, gname.Check(g, true))
		checked(t, "an excluded one that is refused", api.Subtrees{Excluded: []api.GeneralName{g}}, gname.Check(g, true))
	}
	for _, g := range bases() {
		checked(t, "a permitted base", api.Subtrees{Permitted: []api.GeneralName{g}}, api.OK)
		checked(t, "an excluded base", api.Subtrees{Excluded: []api.GeneralName{g}}, api.OK)
	}
}

// TestCheckOrder: P10.1, two errors at once: the limits come before the errors of subtrees, the permitted ones before the excluded ones, and then the first one in a list.
func TestCheckOrder(t *testing.T) {
	a, wrong := mustParse("dns:a"), mustParse("3:a")
	list := func(n int, g api.GeneralName) []api.GeneralName { return slices.Repeat([]api.GeneralName{g}, n) }
	one := func(err api.Errno) []api.GeneralName { return []api.GeneralName{a, bad[err]} }
	for _, k := range []struct {
		what                string
		permitted, excluded []api.GeneralName
		want                api.Errno
	}{
		{"too many permitted ones, with errors", list(17, wrong), nil, api.ErrLimit}, {"too many excluded ones, with errors", nil, list(17, wrong), api.ErrLimit}, {"too many of both", list(17, a), list(17, a), api.ErrLimit},
		{"too many permitted ones, and one with an error excluded", list(17, a), list(1, wrong), api.ErrLimit}, {"too many excluded ones, and one with an error permitted", list(1, wrong), list(17, a), api.ErrLimit}, {"too many, the last one with an error", append(list(16, a), bad[api.ErrOID]), nil, api.ErrLimit},
		{"errors of both", one(api.ErrString), one(api.ErrDuplicate), api.ErrString}, {"errors of both, exchanged", one(api.ErrDuplicate), one(api.ErrString), api.ErrDuplicate}, {"an error of another kind, and a name", list(1, wrong), one(api.ErrOID), api.ErrName}, {"a name, and an error of another kind", one(api.ErrOID), list(1, wrong), api.ErrOID},
		{"the last permitted one, and the first excluded one", append(list(15, a), bad[api.ErrOID]), list(1, wrong), api.ErrOID}, {"two permitted ones", append(one(api.ErrDuplicate), bad[api.ErrString]), nil, api.ErrDuplicate}, {"two excluded ones", list(16, a), append(one(api.ErrString), bad[api.ErrDuplicate]), api.ErrString},
		{"MaxNames of both, the last one with an error", list(16, a), append(list(15, a), bad[api.ErrLimit]), api.ErrLimit}, {"MaxNames of both, the last one of another kind", list(16, a), append(list(15, a), wrong), api.ErrName},
	} {
		checked(t, k.what, api.Subtrees{Permitted: k.permitted, Excluded: k.excluded}, k.want)
	}
}

// TestCheckNumbers: P10.1, every number of permitted and of excluded ones, up to more than MaxNames of both.
func TestCheckNumbers(t *testing.T) {
	for p := range 2*api.MaxNames + 3 {
		for e := range 2*api.MaxNames + 3 {
			want := api.OK
			switch {
			case p == 0 && e == 0:
				want = api.ErrValue
			case p > 16 || e > 16:
				want = api.ErrLimit
			}
			s := api.Subtrees{Permitted: slices.Repeat(names("dns:a"), p), Excluded: slices.Repeat(names("mail:a"), e)}
			checked(t, "a number of subtrees", s, want)
		}
	}
	many := slices.Repeat(names("dns:a"), 1<<20)
	checked(t, "many permitted ones", api.Subtrees{Permitted: many}, api.ErrLimit)
	checked(t, "many excluded ones", api.Subtrees{Excluded: many}, api.ErrLimit)
}

// TestCheckRandom: P10.1, lists with errors at any place, against the model.
func TestCheckRandom(t *testing.T) {
	r := rand.New(rand.NewSource(1))
	good, wrong := bases(), refused()
	list := func() []api.GeneralName {
		l := pick(r, api.MaxNames+1, good)
		for i := range l {
			if r.Intn(20) == 0 {
				l[i] = wrong[r.Intn(len(wrong))]
			}
		}
		return l
	}
	seen := map[api.Errno]int{}
	for range 5000 {
		s := api.Subtrees{Permitted: list(), Excluded: list()}
		want := modelCheck(s)
		checked(t, "random subtrees", s, want)
		seen[want]++
	}
	for _, err := range []api.Errno{api.OK, api.ErrValue, api.ErrLimit, api.ErrName, api.ErrOID, api.ErrString, api.ErrDuplicate} {
		if seen[err] < 10 {
			t.Errorf("only %d constraints with the error %d", seen[err], err)
		}
	}
}
