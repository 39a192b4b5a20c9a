package gname_test

import (
	"math/rand"
	"strings"
	"testing"

	"certpath/api"
	"certpath/gname"
)

// checked compares Check with an expected error, and Encode with it: it returns the error of Check, and nothing else then.
func checked(t *testing.T, what string, g api.GeneralName, constraint bool, want api.Errno) {
	t.Helper()
	if err := gname.Check(g, constraint); err != want {
		t.Errorf("%s: Check(%s, %v) is %d, want %d", what, show(g), constraint, err, want)
	}
	if b, err := gname.Encode(g, constraint); err != want || (b == "") != (want != api.OK) {
		t.Errorf("%s: Encode(%s, %v) is %.200q, %d, want error %d", what, show(g), constraint, b, err, want)
	}
}

// TestCheckKnown: P9.1, what each kind may be as a name, and as a constraint.
func TestCheckKnown(t *testing.T) {
	for _, k := range []struct {
		what       string
		g          api.GeneralName
		name, base api.Errno
	}{
		{"a mail address", mailName("ann@example.org"), api.OK, api.OK},
		{"a mail address of MaxHost bytes", mailName("a@" + long(126)), api.OK, api.OK},
		{"a mail address that is too long", mailName("a@" + long(127)), api.ErrName, api.ErrName},
		{"a DNS name as a mail address", mailName("example.org"), api.ErrName, api.OK},
		{"a point and a DNS name as a mail address", mailName(".example.org"), api.ErrName, api.OK},
		{"a pattern as a mail address", mailName("*.example.org"), api.ErrName, api.ErrName},
		{"an address as a mail address", mailName(home), api.ErrName, api.ErrName},
		{"no text as a mail address", mailName(""), api.ErrName, api.ErrName},
		{"two addresses", mailName("a@b@c"), api.ErrName, api.ErrName},

		{"a DNS name", dnsName("example.org"), api.OK, api.OK},
		{"a DNS name of MaxHost bytes", dnsName(long(128)), api.OK, api.OK},
		{"a DNS name that is too long", dnsName(long(129)), api.ErrName, api.ErrName},
		{"a pattern", dnsName("*.example.org"), api.OK, api.ErrName},
		{"a pattern of one label", dnsName("*.org"), api.ErrName, api.ErrName},
		{"no text as a DNS name", dnsName(""), api.ErrName, api.OK},
		{"a point and a DNS name", dnsName(".example.org"), api.ErrName, api.ErrName},
		{"a mail address as a DNS name", dnsName("ann@example.org"), api.ErrName, api.ErrName},
		{"a range as a DNS name", dnsName(ten), api.ErrName, api.ErrName},
		{"four letters, as a DNS name", dnsName("abcd"), api.OK, api.OK},

		{"the empty name", dirName(api.Name{}), api.OK, api.OK},
		{"the empty name, not nil", dirName(api.Name{RDNs: [][]api.Attribute{}}), api.OK, api.OK},
		{"a name", dirName(name(cn("a"), cn("b"))), api.OK, api.OK},
		{"a name of MaxRDNs", dirName(good[12]), api.OK, api.OK},

		{"an address of 4 bytes", ipName(home), api.OK, api.ErrName},
		{"an address of 16 bytes", ipName(six), api.OK, api.ErrName},
		{"a range of 8 bytes", ipName(ten), api.ErrName, api.OK},
		{"a range of 32 bytes", ipName(sixth), api.ErrName, api.OK},
		{"the range of all addresses of 4 bytes", ipName(any4), api.ErrName, api.OK},
		{"the range of all addresses of 16 bytes", ipName(any16), api.ErrName, api.OK},
		{"a range with bits outside of its mask", ipName("\x0a\x00\x00\x01\xff\x00\x00\x00"), api.ErrName, api.ErrName},
		{"a mask with a gap", ipName("\x0a\x00\x00\x00\xff\x00\xff\x00"), api.ErrName, api.ErrName},
		{"no bytes as an address", ipName(""), api.ErrName, api.ErrName},
		{"5 bytes as an address", ipName(zeros(5)), api.ErrName, api.ErrName},
		{"a DNS name as an address", ipName("example.org"), api.ErrName, api.ErrName},
		{"four letters, as an address", ipName("abcd"), api.OK, api.ErrName},
	} {
		checked(t, k.what, k.g, false, k.name)
		checked(t, k.what, k.g, true, k.base)
	}
}

// TestCheckKinds: P9.1, kinds that are none of the four, whatever else there is.
func TestCheckKinds(t *testing.T) {
	for _, k := range otherKinds {
		for _, g := range []api.GeneralName{{}, mailName("a@b"), dnsName("a.b"), dnsName(""), dirName(name(cn("a"))), dirName(bad[api.ErrLimit]), dirName(bad[api.ErrOID]), ipName(home), ipName(ten)} {
			g.Kind = k
			checked(t, "another kind", g, false, api.ErrName)
			checked(t, "another kind", g, true, api.ErrName)
		}
	}
}

// TestCheckNames: P9.1, the errors of dname.Check, which only a directory name has, and which come behind those of its Text.
func TestCheckNames(t *testing.T) {
	for _, constraint := range []bool{false, true} {
		for want, n := range bad {
			checked(t, "a name with an error", dirName(n), constraint, want)
			for _, s := range []string{"a", "a.b", "a@b", home, ten, "\x00", " "} {
				checked(t, "a name with an error, and a text", api.GeneralName{Kind: kindDirectory, Text: s, Name: n}, constraint, api.ErrName)
			}
		}
		for _, n := range good {
			checked(t, "a name", dirName(n), constraint, api.OK)
			for _, s := range []string{"a", "a.b", "a@b", home, ten, "\x00", " "} {
				checked(t, "a name, and a text", api.GeneralName{Kind: kindDirectory, Text: s, Name: n}, constraint, api.ErrName)
			}
		}
	}
}

// TestCheckBoth: P9.1, a Name beside a valid Text, and beside one that is not; nil and empty slices are equivalent.
func TestCheckBoth(t *testing.T) {
	for k, l := range map[int][2]string{kindMail: {"a@b", "a@b"}, kindDNS: {"a.b", "a.b"}, kindAddress: {home, ten}} {
		for i, constraint := range []bool{false, true} {
			g := api.GeneralName{Kind: k, Text: l[i]}
			checked(t, "no name", g, constraint, api.OK)
			g.Name.RDNs = [][]api.Attribute{}
			checked(t, "the empty name, not nil", g, constraint, api.OK)
			for _, n := range append(badNames(), good[1:]...) {
				g.Name = n
				checked(t, "a text and a name", g, constraint, api.ErrName)
				checked(t, "an invalid text and a name", api.GeneralName{Kind: k, Text: "a..b", Name: n}, constraint, api.ErrName)
				checked(t, "no text and a name", api.GeneralName{Kind: k, Name: n}, constraint, api.ErrName)
			}
		}
	}
}

// TestCheckAll: P9.1, all kinds, texts and names in all combinations.
func TestCheckAll(t *testing.T) {
	seen := map[api.Errno]int{}
	eachName(func(g api.GeneralName) {
		for _, constraint := range []bool{false, true} {
			want := modelCheck(g, constraint)
			if err := gname.Check(g, constraint); err != want {
				t.Fatalf("Check(%s, %v) is %d, want %d", show(g), constraint, err, want)
			}
			seen[want]++
		}
	})
	for _, err := range []api.Errno{api.OK, api.ErrName, api.ErrLimit, api.ErrOID, api.ErrString, api.ErrDuplicate} {
		if seen[err] < 2 {
			t.Errorf("only %d general names with the error %d", seen[err], err)
		}
	}
}

// TestCheckRandom: P9.1, names and bases of every kind as names, and as constraints.
func TestCheckRandom(t *testing.T) {
	r := rand.New(rand.NewSource(1))
	for range 10000 {
		constraint := r.Intn(2) == 0
		g := randomName(r, constraint)
		checked(t, "a valid one", g, constraint, api.OK)
		checked(t, "the other use", g, !constraint, modelCheck(g, !constraint))
		if g.Kind != kindDirectory {
			i := r.Intn(len(g.Text) + 1)
			g.Text = g.Text[:i] + string([]byte{byte(r.Intn(256))}) + g.Text[i:]
		}
		checked(t, "with a byte more", g, constraint, modelCheck(g, constraint))
	}
}

// TestCheckHuge: P9.1 and R1, texts and names that are much longer than the limits.
func TestCheckHuge(t *testing.T) {
	for _, k := range append(otherKinds[:3:3], fourKinds...) {
		for _, part := range []string{"a", "a.", "*.", "a@", "\x00", "\xff"} {
			g := api.GeneralName{Kind: k, Text: strings.Repeat(part, 1<<20)}
			checked(t, "a long text", g, false, api.ErrName)
			checked(t, "a long text", g, true, api.ErrName)
		}
	}
	long := dirName(api.Name{RDNs: make([][]api.Attribute, 1<<20)})
	checked(t, "a long name", long, false, api.ErrLimit)
	checked(t, "a long name", long, true, api.ErrLimit)
}
