package dname_test

import (
	"math/rand"
	"slices"
	"strings"
	"testing"

	"certpath/api"
	"certpath/dname"
	"certpath/oid"
	"certpath/text"
)

// modelCheck is P7.1: of the first relative name that has errors, all of them are noted in their order.
func modelCheck(n api.Name) api.Errno {
	if len(n.RDNs) > 8 {
		return api.ErrLimit
	}
	for _, r := range n.RDNs {
		var found []api.Errno
		note := func(err api.Errno, applies bool) {
			if applies {
				found = append(found, err)
			}
		}
		note(api.ErrName, len(r) == 0)
		note(api.ErrLimit, len(r) > 4)
		for i, a := range r {
			note(api.ErrOID, !oid.Valid(a.Type))
			note(api.ErrString, len(a.Value) == 0)
			note(api.ErrString, !text.Valid(a.Kind, a.Value))
			note(api.ErrLimit, len(a.Value) > 64)
			for _, b := range r[:i] {
				note(api.ErrDuplicate, b.Type == a.Type)
			}
		}
		if len(found) > 0 {
			return found[0]
		}
	}
	return api.OK
}

// refused checks that Check, Encode and Format return an error, and the latter two nothing else.
func refused(t *testing.T, what string, n api.Name, want api.Errno) {
	t.Helper()
	if err := dname.Check(n); err != want {
		t.Errorf("%s: Check is %d, want %d", what, err, want)
	}
	if b, err := dname.Encode(n); err != want || b != "" {
		t.Errorf("%s: Encode is %q, %d, want error %d", what, b, err, want)
	}
	if s, err := dname.Format(n); err != want || s != "" {
		t.Errorf("%s: Format is %q, %d, want error %d", what, s, err, want)
	}
}

// accepted checks that Check, Encode and Format return no error.
func accepted(t *testing.T, what string, n api.Name) {
	t.Helper()
	if err := dname.Check(n); err != api.OK {
		t.Errorf("%s: Check is %d", what, err)
	}
	if b, err := dname.Encode(n); err != api.OK || b == "" {
		t.Errorf("%s: Encode is %q, %d", what, b, err)
	}
	if s, err := dname.Format(n); err != api.OK || s == "" && !none(n) {
		t.Errorf("%s: Format is %q, %d", what, s, err)
	}
}

// TestCheckValid: P7.1, names without errors, up to all limits.
func TestCheckValid(t *testing.T) {
	four := rel(attr("2.5.4.3", "a"), attr("2.5.4.6", "a"), attr("2.5.4.7", "a"), attr("2.5.4.10", "a"))
	for what, n := range map[string]api.Name{
		"the empty name, nil":                      {},
		"the empty name, not nil":                  {RDNs: [][]api.Attribute{}},
		"one relative name":                        name(cn("a")),
		"MaxRDNs relative names":                   repeat(cn("a"), api.MaxRDNs),
		"MaxAttributes attributes":                 name(four),
		"MaxRDNs times MaxAttributes":              repeat(four, api.MaxRDNs),
		"MaxValue bytes":                           name(cn(strings.Repeat("a", api.MaxValue))),
		"MaxValue bytes, fewer code points":        name(rel(utf8("2.5.4.3", strings.Repeat("é", api.MaxValue/2)))),
		"one byte":                                 name(cn("=")),
		"a space":                                  name(cn(" ")),
		"the same type in different relative ones": name(cn("a"), cn("b"), cn("a")),
		"the same value for different types":       name(rel(attr("2.5.4.3", "a"), attr("2.5.4.4", "a"))),
		"types one of which is under the other":    name(rel(attr("2.5.4", "a"), attr("2.5.4.3", "a"))),
		"all kinds":                                name(rel(utf8("2.5.4.3", "é"), attr("2.5.4.6", "a=b"), ia5("2.5.4.7", "a*b"))),
		"DC in UTF-8":                              name(rel(utf8(api.OIDDomain, "é"))),
		"the greatest type":                        name(rel(attr(other[len(other)-1], "a"))),
	} {
		accepted(t, what, n)
	}
}

// wrong are the ways in which an attribute alone may be wrong, with the first error.
var wrong = []struct {
	what string
	a    api.Attribute
	err  api.Errno
}{
	{"no type", attr("", "a"), api.ErrOID},
	{"a short type", attr("CN", "a"), api.ErrOID},
	{"one arc", attr("2", "a"), api.ErrOID},
	{"second arc too great", attr("1.40", "a"), api.ErrOID},
	{"leading zero", attr("2.5.4.03", "a"), api.ErrOID},
	{"arc too great", attr("2.5.4.2147483648", "a"), api.ErrOID},
	{"too many arcs", attr("1.2.3.4.5.6.7.8.9.10.11.12.13", "a"), api.ErrOID},
	{"a long type", attr("1"+strings.Repeat(".1", 100000), "a"), api.ErrOID},
	{"no type and no value", attr("", ""), api.ErrOID},
	{"no type and a bad value", attr("", "*"), api.ErrOID},
	{"no type and a bad kind", api.Attribute{Value: "a"}, api.ErrOID},
	{"no type and a long value", attr("", strings.Repeat("a", 65)), api.ErrOID},
	{"nothing", api.Attribute{}, api.ErrOID},
	{"no value", attr("2.5.4.3", ""), api.ErrString},
	{"no value, TagUTF8", utf8("2.5.4.3", ""), api.ErrString},
	{"no value, TagIA5", ia5("2.5.4.3", ""), api.ErrString},
	{"no value and a bad kind", api.Attribute{Type: "2.5.4.3"}, api.ErrString},
	{"not printable", attr("2.5.4.3", "a*b"), api.ErrString},
	{"at sign for TagPrintable", attr("2.5.4.3", "a@b"), api.ErrString},
	{"é for TagPrintable", attr("2.5.4.3", "é"), api.ErrString},
	{"é for TagIA5", ia5("2.5.4.3", "é"), api.ErrString},
	{"127 for TagIA5", ia5("2.5.4.3", "\x7f"), api.ErrString},
	{"0 for TagUTF8", utf8("2.5.4.3", "a\x00"), api.ErrString},
	{"no UTF-8", utf8("2.5.4.3", "a\xff"), api.ErrString},
	{"kind 0", api.Attribute{Type: "2.5.4.3", Kind: 0, Value: "a"}, api.ErrString},
	{"kind -1", api.Attribute{Type: "2.5.4.3", Kind: -1, Value: "a"}, api.ErrString},
	{"kind TagOctets", api.Attribute{Type: "2.5.4.3", Kind: api.TagOctets, Value: "a"}, api.ErrString},
	{"kind TagOID", api.Attribute{Type: "2.5.4.3", Kind: api.TagOID, Value: "a"}, api.ErrString},
	{"kind 256 + TagUTF8", api.Attribute{Type: "2.5.4.3", Kind: 256 + api.TagUTF8, Value: "a"}, api.ErrString},
	{"bad and long", attr("2.5.4.3", strings.Repeat("a", 64)+"*"), api.ErrString},
	{"bad kind and long", api.Attribute{Type: "2.5.4.3", Kind: api.TagSet, Value: strings.Repeat("a", 65)}, api.ErrString},
	{"65 bytes", attr("2.5.4.3", strings.Repeat("a", 65)), api.ErrLimit},
	{"65 bytes, TagIA5", ia5("2.5.4.3", strings.Repeat("*", 65)), api.ErrLimit},
	{"66 bytes, 33 code points", utf8("2.5.4.3", strings.Repeat("é", 33)), api.ErrLimit},
	{"65 spaces", attr("2.5.4.3", strings.Repeat(" ", 65)), api.ErrLimit},
	{"100000 bytes", attr("2.5.4.3", strings.Repeat("a", 100000)), api.ErrLimit},
}

// TestCheckAttribute: P7.1, each error of an attribute, in every place of a relative name and in the first and in later relative names; whatever is wrong behind it does not matter.
func TestCheckAttribute(t *testing.T) {
	good := rel(attr("2.5.4.6", "a"), attr("2.5.4.7", "b"), attr("2.5.4.10", "c"))
	for _, w := range wrong {
		refused(t, w.what, name(rel(w.a)), w.err)
		for at := range len(good) + 1 {
			r := slices.Insert(slices.Clone(good), at, w.a)
			refused(t, w.what+", among others", name(r), w.err)
			refused(t, w.what+", in the second relative name", name(good, r), w.err)
			refused(t, w.what+", in the last relative name", name(append(repeat(good, api.MaxRDNs-1).RDNs, r)...), w.err)
			refused(t, w.what+", before an empty relative name", name(r, nil), w.err)
		}
		for _, next := range wrong {
			refused(t, w.what+", before "+next.what, name(rel(w.a, next.a)), w.err)
			refused(t, w.what+", in a relative name before "+next.what, name(rel(w.a), rel(next.a)), w.err)
		}
	}
}

// TestCheckDuplicate: P7.1, an attribute before it has the same type, wherever that is; the other errors of the attribute come first.
func TestCheckDuplicate(t *testing.T) {
	l, o := attr(api.OIDLocality, "l"), attr(api.OIDOrganization, "o")
	a := attr(api.OIDCommonName, "a")
	for _, b := range []api.Attribute{a, attr(api.OIDCommonName, "b"), utf8(api.OIDCommonName, "a"), ia5(api.OIDCommonName, "*")} {
		for _, r := range [][]api.Attribute{rel(a, b), rel(a, b, l, o), rel(a, l, b, o), rel(a, l, o, b), rel(l, a, b, o), rel(l, a, o, b), rel(l, o, a, b), rel(a, b, a, b)} {
			refused(t, "the same type twice", name(r), api.ErrDuplicate)
			refused(t, "the same type twice, in the second relative name", name(cn("a"), r), api.ErrDuplicate)
			refused(t, "the same type twice, before an empty relative name", name(r, nil), api.ErrDuplicate)
		}
		refused(t, "the same type twice, before a bad type", name(rel(a, b, attr("", "a"))), api.ErrDuplicate)
		refused(t, "the same type twice, behind a bad type", name(rel(attr("", "a"), a, b)), api.ErrOID)
	}
	refused(t, "a bad type twice", name(rel(attr("1.40", "a"), attr("1.40", "a"))), api.ErrOID)
	refused(t, "the same type and no value", name(rel(a, attr(api.OIDCommonName, ""))), api.ErrString)
	refused(t, "the same type and a bad value", name(rel(a, attr(api.OIDCommonName, "*"))), api.ErrString)
	refused(t, "the same type and a long value", name(rel(a, attr(api.OIDCommonName, strings.Repeat("a", 65)))), api.ErrLimit)
	refused(t, "a long value, and the same type behind it", name(rel(attr(api.OIDCommonName, strings.Repeat("a", 65)), a)), api.ErrLimit)
}

// TestCheckNumbers: P7.1, too many or no parts; the number of relative names comes first, and that of attributes before what is in them.
func TestCheckNumbers(t *testing.T) {
	five := rel(attr("2.5.4.3", "a"), attr("2.5.4.6", "a"), attr("2.5.4.7", "a"), attr("2.5.4.10", "a"), attr("2.5.4.11", "a"))
	bad := rel(attr("", ""), five[1], five[2], five[3], five[4])
	for _, c := range []struct {
		what string
		n    api.Name
		want api.Errno
	}{
		{"MaxRDNs and one more", repeat(cn("a"), api.MaxRDNs+1), api.ErrLimit},
		{"many relative names", repeat(cn("a"), 100000), api.ErrLimit},
		{"MaxRDNs and one more, all empty", repeat(nil, api.MaxRDNs+1), api.ErrLimit},
		{"MaxRDNs and one more, all with a bad type", repeat(rel(attr("", "")), api.MaxRDNs+1), api.ErrLimit},
		{"MaxRDNs and one more, the first one with a duplicate", name(append([][]api.Attribute{{five[0], five[0]}}, repeat(cn("a"), api.MaxRDNs).RDNs...)...), api.ErrLimit},
		{"an empty relative name", name(nil), api.ErrName},
		{"an empty relative name, not nil", name(rel()), api.ErrName},
		{"MaxRDNs empty ones", repeat(nil, api.MaxRDNs), api.ErrName},
		{"an empty one behind others", name(append(repeat(cn("a"), api.MaxRDNs-1).RDNs, nil)...), api.ErrName},
		{"an empty one between others", name(cn("a"), nil, cn("a")), api.ErrName},
		{"an empty one before a bad one", name(nil, bad), api.ErrName},
		{"an empty one before a bad type", name(nil, rel(attr("", ""))), api.ErrName},
		{"a bad type before an empty one", name(rel(attr("", "")), nil), api.ErrOID},
		{"MaxAttributes and one more", name(five), api.ErrLimit},
		{"MaxAttributes and one more, behind others", name(cn("a"), cn("a"), five), api.ErrLimit},
		{"MaxAttributes and one more, before an empty one", name(five, nil), api.ErrLimit},
		{"MaxAttributes and one more, one of them bad", name(bad), api.ErrLimit},
		{"MaxAttributes and one more, one of them twice", name(rel(five[0], five[0], five[1], five[2], five[3])), api.ErrLimit},
		{"MaxAttributes and one more, behind a duplicate", name(rel(five[0], five[0]), five), api.ErrDuplicate},
		{"many attributes", name(slices.Repeat(five, 20000)), api.ErrLimit},
		{"many attributes that are nothing", name(make([]api.Attribute, 100000)), api.ErrLimit},
	} {
		refused(t, c.what, c.n, c.want)
	}
}

// TestCheckRandom: P7.1, random names, most of them damaged, against the model.
func TestCheckRandom(t *testing.T) {
	r := rand.New(rand.NewSource(1))
	seen := map[api.Errno]int{}
	for range 30000 {
		n := damaged(r, randomName(r))
		want := modelCheck(n)
		seen[want]++
		if want != api.OK {
			refused(t, "random", n, want)
		} else {
			accepted(t, "random", n)
		}
		if t.Failed() {
			t.Fatalf("the name is %+v", n)
		}
	}
	seenEnough(t, seen, api.OK, api.ErrLimit, api.ErrName, api.ErrOID, api.ErrString, api.ErrDuplicate)
}
