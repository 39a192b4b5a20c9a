package gname_test

import (
	"fmt"
	"slices"
	"strings"
	"testing"
	"unsafe"

	"certpath/api"
	"certpath/dname"
	"certpath/gname"
)

// view returns a string whose bytes are those of b, so that a change of one is seen in the other.
func view(b []byte) string {
	return unsafe.String(unsafe.SliceData(b), len(b))
}

// overwrite changes everything in the memory of a general name, except for strings.
func overwrite(g api.GeneralName) {
	for i, r := range g.Name.RDNs {
		for k := range r {
			r[k] = attr("1.2.3", "overwritten")
		}
		g.Name.RDNs[i] = nil
	}
}

// results returns what all functions that have general names as arguments return for two of them, as one text.
func results(a, b api.GeneralName) string {
	s := fmt.Sprint(gname.Check(a, false), gname.Check(a, true), gname.Same(a, b), gname.Match(a, b), gname.Within(a, b))
	for _, constraint := range []bool{false, true} {
		e, err := gname.Encode(a, constraint)
		s += fmt.Sprintf(" %x %d", e, err)
	}
	e, err := gname.EncodeList([]api.GeneralName{a, b, a})
	s += fmt.Sprintf(" %x %d", e, err)
	f, err := gname.Format(a)
	return s + fmt.Sprintf(" %q %d", f, err)
}

// some are general names of each kind, valid and not, with attributes that an encoding has in another order.
func some() []api.GeneralName {
	l := []api.GeneralName{
		{}, {Kind: 3, Text: "a.b", Name: name(cn("a"))}, mailName("ann@example.org"), mailName("ANN@EXAMPLE.org"), mailName(".EXAMPLE.org"), dnsName("www.Example.org"), dnsName("*.example.org"), dnsName("Org"), ipName(home), ipName(ten), ipName("\x0a\x01\x02\x03"),
		{Kind: kindDNS, Text: "a.b", Name: name(cn("a"))}, {Kind: kindDirectory, Text: "a", Name: name(cn("b"))},
	}
	for _, n := range append(slices.Clone(good), badNames()...) {
		l = append(l, dirName(n))
	}
	return l
}

// TestKeepsNames: R3 and R4, no function changes its general names or keeps them.
func TestKeepsNames(t *testing.T) {
	for _, a := range some() {
		for _, b := range some() {
			x, y := clone(a), clone(b)
			want := results(x, y)
			if !identical(x, a) || !identical(y, b) {
				t.Errorf("%s and %s are %s and %s after the calls", show(a), show(b), show(x), show(y))
			}
			overwrite(x)
			overwrite(y)
			if got := results(clone(a), clone(b)); got != want {
				t.Errorf("the results for %s and %s are %s the second time, want %s", show(a), show(b), got, want)
			}
		}
	}
	l := []api.GeneralName{dnsName("b"), dirName(name([]api.Attribute{attr("2.5.4.10", "b"), attr("2.5.4.3", "a")})), dnsName("a")}
	kept := []api.GeneralName{clone(l[0]), clone(l[1]), clone(l[2])}
	b, err := gname.EncodeList(l)
	if !slices.EqualFunc(l, kept, identical) || err != api.OK {
		t.Errorf("%s is %s after EncodeList, with the error %d", showAll(kept), showAll(l), err)
	}
	overwrite(l[1])
	l[0] = dnsName("x")
	if again, err := gname.EncodeList(kept); again != b || err != api.OK {
		t.Errorf("EncodeList is %x, %d the second time, want %x", again, err, b)
	}
}

// TestKeepsTexts: R3 and R4, what the memory of a Text holds after a call has no influence on later calls.
func TestKeepsTexts(t *testing.T) {
	for _, a := range some() {
		memory := []byte(a.Text)
		x := clone(a)
		x.Text = view(memory)
		want := results(a, a)
		if got := results(x, x); got != want {
			t.Errorf("the results for %s are %s, want %s", show(a), got, want)
		}
		if string(memory) != a.Text {
			t.Errorf("the text of %s is %q after the calls", show(a), memory)
		}
		for i := range memory {
			memory[i] = '-'
		}
		if got := results(a, a); got != want {
			t.Errorf("the results for %s are %s the second time, want %s", show(a), got, want)
		}
		other := a
		other.Text = strings.Repeat("-", len(a.Text))
		if got, want := results(x, x), results(other, other); got != want {
			t.Errorf("the results in the memory of %s are %s, want %s", show(a), got, want)
		}
	}
}

// TestResultsNew: R3, the names in results share no memory with each other, with earlier or with later results.
func TestResultsNew(t *testing.T) {
	for _, n := range good {
		b, err := dname.Encode(n)
		if err != api.OK {
			t.Fatal(err)
		}
		s, err := gname.Format(dirName(n))
		if err != api.OK {
			t.Fatal(err)
		}
		decode := func() api.GeneralName { g, _ := gname.Decode(element(0xa4, b), false); return g }
		parse := func() api.GeneralName { g, _ := gname.Parse(s); return g }
		list := func() api.GeneralName { l, _ := gname.DecodeList(der(0xa4, b)); return l[0] }
		for _, f := range []func() api.GeneralName{decode, parse, list} {
			first, second := f(), f()
			want := clone(second)
			overwrite(first)
			if third := f(); !identical(second, want) || !identical(third, want) {
				t.Errorf("%s is %s and %s after a change of the result before", show(want), show(second), show(third))
			}
		}
		l, err := gname.DecodeList(strings.Repeat(der(0xa4, b), 3))
		if err != api.OK {
			t.Fatal(err)
		}
		want := clone(l[2])
		overwrite(l[0])
		l[0] = api.GeneralName{}
		if again, _ := gname.DecodeList(strings.Repeat(der(0xa4, b), 3)); !identical(l[1], want) || !identical(l[2], want) || !identical(again[0], want) {
			t.Errorf("%s is %s and %s, and %s later, after a change of the first one", show(want), show(l[1]), show(l[2]), show(again[0]))
		}
	}
}
