package subtree

import (
	"slices"

	"certpath/api"
	"certpath/gname"
)

// kinds are the four kinds of general names, in ascending order.
var kinds = [...]int{api.NameMail, api.NameDNS, api.NameDirectory, api.NameAddress}

// Reduce returns a reduced state, which permits the same names as st if Check accepts its constraints. Of the permitted subtrees those suffice that are within all constraints, because two bases with a name in common are one within the other.
func Reduce(st api.NameState) api.Reduced {
	var r api.Reduced
	for _, kind := range kinds {
		lists := permittedOf(st, kind)
		if len(lists) > 0 {
			r.Limited = append(r.Limited, kind)
			r.Permitted = append(r.Permitted, withinEach(lists)...)
		}
	}
	for _, s := range st.Constraints {
		r.Excluded = append(r.Excluded, s.Excluded...)
	}
	r.Permitted = copies(distinct(r.Permitted), copyName)
	r.Excluded = copies(distinct(r.Excluded), copyName)
	return r
}

// permittedOf returns the permitted subtrees of a kind in each constraint that has any of it.
func permittedOf(st api.NameState, kind int) [][]api.GeneralName {
	isOther := func(g api.GeneralName) bool { return g.Kind != kind }
	var lists [][]api.GeneralName
	for _, s := range st.Constraints {
		l := slices.DeleteFunc(slices.Clone(s.Permitted), isOther)
		if len(l) > 0 {
			lists = append(lists, l)
		}
	}
	return lists
}

// withinEach returns the bases in lists that are within some base of each list. Those of a list need not be within it: Check may refuse them.
func withinEach(lists [][]api.GeneralName) []api.GeneralName {
	isOutside := func(g api.GeneralName) bool {
		return slices.ContainsFunc(lists, func(bases []api.GeneralName) bool { return !withinAny(g, bases) })
	}
	return slices.DeleteFunc(slices.Concat(lists...), isOutside)
}

// distinct returns the first one of each of the general names in l that are the same.
func distinct(l []api.GeneralName) []api.GeneralName {
	var firsts []api.GeneralName
	for _, g := range l {
		if !slices.ContainsFunc(firsts, func(first api.GeneralName) bool { return gname.Same(first, g) }) {
			firsts = append(firsts, g)
		}
	}
	return firsts
}

// PermitsReduced reports whether a reduced state permits a general name.
func PermitsReduced(r api.Reduced, g api.GeneralName) bool {
	s := api.Subtrees{Permitted: r.Permitted, Excluded: r.Excluded}
	return permits(s, g, slices.Contains(r.Limited, g.Kind))
}
