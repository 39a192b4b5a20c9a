package dname_test

import (
	"crypto/x509/pkix"
	"encoding/asn1"
	"math/rand"
	"slices"
	"strconv"
	"strings"
	"testing"

	"certpath/api"
	"certpath/dname"
	"certpath/oid"
)

// encode is Encode without an error.
func encode(t testing.TB, n api.Name) string {
	t.Helper()
	b, err := dname.Encode(n)
	if err != api.OK {
		t.Fatalf("Encode(%+v) returns error %d", n, err)
	}
	return b
}

// attributeDER is the encoding of an attribute.
func attributeDER(a api.Attribute) string {
	id, _ := oid.Encode(a.Type)
	return der(api.TagSequence, der(api.TagOID, id), der(a.Kind, a.Value))
}

// modelOrder returns r in the order of P7.2: of all orders the one whose encodings ascend.
func modelOrder(r []api.Attribute) []api.Attribute {
	for _, o := range orders(r) {
		ascending := true
		for i := 1; i < len(o); i++ {
			ascending = ascending && attributeDER(o[i-1]) < attributeDER(o[i])
		}
		if ascending {
			return o
		}
	}
	return nil
}

// modelEncode is P7.2.
func modelEncode(n api.Name) string {
	sets := ""
	for _, r := range n.RDNs {
		set := ""
		for _, a := range modelOrder(r) {
			set += attributeDER(a)
		}
		sets += der(api.TagSet, set)
	}
	return der(api.TagSequence, sets)
}

// ordered returns n with the attributes of each relative name in the order of P7.2.
func ordered(n api.Name) api.Name {
	var c api.Name
	for _, r := range n.RDNs {
		c.RDNs = append(c.RDNs, modelOrder(r))
	}
	return c
}

// knownEncodings are names with their encodings, which are written out here.
var knownEncodings = []struct {
	n api.Name
	b string
}{
	{api.Name{}, "\x30\x00"},
	{name(cn("a")), "\x30\x0c\x31\x0a\x30\x08\x06\x03\x55\x04\x03\x13\x01a"},
	{name(cn("Web Server"), rel(attr(api.OIDOrganization, "Example"))), "\x30\x27\x31\x13\x30\x11\x06\x03\x55\x04\x03\x13\x0aWeb Server\x31\x10\x30\x0e\x06\x03\x55\x04\x0a\x13\x07Example"},
	{name(rel(attr(api.OIDOrganization, "Example")), cn("Web Server")), "\x30\x27\x31\x10\x30\x0e\x06\x03\x55\x04\x0a\x13\x07Example\x31\x13\x30\x11\x06\x03\x55\x04\x03\x13\x0aWeb Server"}, // the order of relative names counts
	{name(rel(utf8(api.OIDCountry, "é")), rel(ia5(api.OIDDomain, "a*"))), "\x30\x21\x31\x0b\x30\x09\x06\x03\x55\x04\x06\x0c\x02\xc3\xa9\x31\x12\x30\x10\x06\x0a\x09\x92\x26\x89\x93\xf2\x2c\x64\x01\x19\x16\x02a*"},
	{name(rel(attr(api.OIDCommonName, "a"), attr(api.OIDCountry, "b"))), "\x30\x16\x31\x14\x30\x08\x06\x03\x55\x04\x03\x13\x01a\x30\x08\x06\x03\x55\x04\x06\x13\x01b"},
	{name(rel(attr(api.OIDCommonName, "ab"), attr(api.OIDCountry, "c"))), "\x30\x17\x31\x15\x30\x08\x06\x03\x55\x04\x06\x13\x01c\x30\x09\x06\x03\x55\x04\x03\x13\x02ab"},                                                   // the shorter one comes first
	{name(rel(attr("2.5.4.10", "a"), attr("2.5.4.3", "b"))), "\x30\x16\x31\x14\x30\x08\x06\x03\x55\x04\x03\x13\x01b\x30\x08\x06\x03\x55\x04\x0a\x13\x01a"},                                                                 // not the order of the texts of types
	{name(rel(attr("2.5.4.200", "a"), attr("2.5.4.3", "ab"), attr("2.5.5", "abc"))), "\x30\x23\x31\x21\x30\x09\x06\x02\x55\x05\x13\x03abc\x30\x09\x06\x03\x55\x04\x03\x13\x02ab\x30\x09\x06\x04\x55\x04\x81\x48\x13\x01a"}, // of the same length: the shorter type comes first
	{name(rel(utf8("2.5.4.4", "a"), ia5("2.5.4.5", "a"), attr("2.5.4.3", "a"))), "\x30\x20\x31\x1e\x30\x08\x06\x03\x55\x04\x03\x13\x01a\x30\x08\x06\x03\x55\x04\x04\x0c\x01a\x30\x08\x06\x03\x55\x04\x05\x16\x01a"},
	{name(cn(strings.Repeat("a", 64))), "\x30\x4b\x31\x49\x30\x47\x06\x03\x55\x04\x03\x13\x40" + strings.Repeat("a", 64)},
	{repeat(cn("a"), 8), "\x30\x60" + strings.Repeat("\x31\x0a\x30\x08\x06\x03\x55\x04\x03\x13\x01a", 8)},
	{repeat(cn(strings.Repeat("a", 64)), 2), "\x30\x81\x96" + strings.Repeat("\x31\x49\x30\x47\x06\x03\x55\x04\x03\x13\x40"+strings.Repeat("a", 64), 2)},
}

// TestEncodeKnown: P7.2, P7.3 and P7.8, names with their encodings; Decode returns the attributes in ascending order of these.
func TestEncodeKnown(t *testing.T) {
	for _, k := range knownEncodings {
		if b, err := dname.Encode(k.n); b != k.b || err != api.OK {
			t.Errorf("Encode(%+v) is % x, %d, want % x", k.n, b, err, k.b)
		}
		if n, err := dname.Decode(k.b); !same(n, ordered(k.n)) || err != api.OK {
			t.Errorf("Decode(% x) is %+v, %d, want %+v", k.b, n, err, ordered(k.n))
		}
	}
}

// TestEncodeEmpty: P7.2 and R3, a nil slice and an empty one are the same name.
func TestEncodeEmpty(t *testing.T) {
	if encode(t, api.Name{RDNs: [][]api.Attribute{}}) != encode(t, api.Name{}) {
		t.Error("the encoding of an empty slice is not that of nil")
	}
}

// TestEncodeOrders: P7.2, the attributes of a relative name in every order have the same encoding, and the relative names keep their places.
func TestEncodeOrders(t *testing.T) {
	for _, r := range [][]api.Attribute{
		cn("a"),
		rel(attr("2.5.4.3", "a"), attr("2.5.4.6", "a")),
		rel(attr("2.5.4.3", "b"), attr("2.5.4.6", "a"), attr("2.5.4.10", "c")),
		rel(attr("2.5.4.3", "abcd"), attr("2.5.4.6", "abc"), attr("2.5.4.7", "ab"), attr("2.5.4.10", "a")),
		rel(attr("2.5.4.200", "a"), attr("2.5.4.3", "ab"), attr("2.5.5", "abc"), attr("2.5", "abcd")),
		rel(utf8("2.5.4.3", "a"), ia5("2.5.4.6", "a"), attr("2.5.4.7", "a"), ia5(api.OIDDomain, "a")),
	} {
		want := modelEncode(name(cn("first"), r, cn("last")))
		for _, o := range orders(r) {
			if b := encode(t, name(cn("first"), o, cn("last"))); b != want {
				t.Errorf("Encode of the order %+v is % x, want % x", o, b, want)
			}
		}
	}
}

// library returns the encoding that Go's library has for a name.
func library(t *testing.T, n api.Name) string {
	t.Helper()
	seq := pkix.RDNSequence{}
	for _, r := range n.RDNs {
		var set pkix.RelativeDistinguishedNameSET
		for _, a := range r {
			var id asn1.ObjectIdentifier
			for _, arc := range strings.Split(a.Type, ".") {
				v, err := strconv.Atoi(arc)
				if err != nil {
					t.Fatal(err)
				}
				id = append(id, v)
			}
			set = append(set, pkix.AttributeTypeAndValue{Type: id, Value: asn1.RawValue{Tag: a.Kind, Bytes: []byte(a.Value)}})
		}
		seq = append(seq, set)
	}
	b, err := asn1.Marshal(seq)
	if err != nil {
		t.Fatal(err)
	}
	return string(b)
}

// checkRound compares Encode with P7.2 and with the library, and Decode with it.
func checkRound(t *testing.T, n api.Name) {
	t.Helper()
	b, want := encode(t, n), modelEncode(n)
	if b != want {
		t.Fatalf("Encode(%+v) is % x, want % x", n, b, want)
	}
	if l := library(t, n); b != l {
		t.Fatalf("Encode(%+v) is % x, that of the library is % x", n, b, l)
	}
	again, err := dname.Decode(b)
	if !same(again, ordered(n)) || err != api.OK {
		t.Fatalf("Decode of Encode(%+v) is %+v, %d", n, again, err)
	}
	if encode(t, again) != b {
		t.Fatalf("Encode of Decode(% x) is something else", b)
	}
}

// TestEncodeRandom: P7.2 and P7.8, random names, against the model and Go's library.
func TestEncodeRandom(t *testing.T) {
	r := rand.New(rand.NewSource(2))
	for range 3000 {
		checkRound(t, randomName(r))
	}
}

// TestEncodeGreatest: P7.2 and P7.8, the longest name that there is.
func TestEncodeGreatest(t *testing.T) {
	r := make([]api.Attribute, api.MaxAttributes)
	for i := range r {
		r[i] = attr("2.2147483567"+strings.Repeat(".2147483647", api.MaxArcs-3)+"."+strconv.Itoa(api.MaxArc-i), strings.Repeat("a", api.MaxValue))
	}
	checkRound(t, repeat(r, api.MaxRDNs))
}

// TestEncodeKeeps: R3, no function changes its arguments, although the attributes are not in ascending order.
func TestEncodeKeeps(t *testing.T) {
	r := rel(attr("2.5.4.10", "C c"), attr("2.5.4.6", " B"), attr("2.5.4.3", "aaaa"), ia5(api.OIDMail, "z"))
	for _, o := range orders(r) {
		n := name(cn("z"), o, cn("a"))
		n.RDNs = slices.Grow(n.RDNs, 3)
		before := clone(n)
		dname.Check(n)
		dname.Encode(n)
		dname.Match(n, name(cn("z"), r))
		dname.Match(name(cn("z"), r, cn("a")), n)
		dname.Within(n, before)
		dname.Within(before, n)
		dname.Key(n)
		dname.Format(n)
		if !same(n, before) {
			t.Fatalf("%+v has become %+v", before, n)
		}
	}
}
