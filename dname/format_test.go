package dname_test

import (
	"math/rand"
	"strings"
	"testing"

	"certpath/api"
	"certpath/dname"
	"certpath/text"
)

// format is Format without an error.
func format(t testing.TB, n api.Name) string {
	t.Helper()
	s, err := dname.Format(n)
	if err != api.OK {
		t.Fatalf("Format(%+v) returns error %d", n, err)
	}
	return s
}

// modelFormat is P7.6.
func modelFormat(n api.Name) string {
	var relatives []string
	for _, r := range n.RDNs {
		var attributes []string
		for _, a := range modelOrder(r) {
			word, ok := short[a.Type]
			if !ok {
				word = a.Type
			}
			attributes = append(attributes, word+"="+text.Escape(a.Value))
		}
		relatives = append(relatives, strings.Join(attributes, "+"))
	}
	return strings.Join(relatives, ",")
}

// knownTexts are names with their texts, which are written out here; the kinds are those of P7.7.
var knownTexts = []struct {
	n api.Name
	s string
}{
	{api.Name{}, ""},
	{name(cn("Web Server"), rel(attr(api.OIDOrganization, "Example"))), "CN=Web Server,O=Example"},
	{name(rel(attr("2.5.4.3", "a")), rel(attr("2.5.4.6", "b")), rel(attr("2.5.4.7", "c")), rel(attr("2.5.4.10", "d")), rel(attr("2.5.4.11", "e")), rel(ia5("0.9.2342.19200300.100.1.25", "f")), rel(ia5("1.2.840.113549.1.9.1", "g@h"))), "CN=a,C=b,L=c,O=d,OU=e,DC=f,E=g@h"},
	{name(rel(attr("2.5.4.5", "1")), rel(attr("2.5.4.8", "a")), rel(attr("2.5.4", "a")), rel(attr("0.9.2342.19200300.100.1.1", "u")), rel(attr("2.5.4.3.1", "a"))), "2.5.4.5=1,2.5.4.8=a,2.5.4=a,0.9.2342.19200300.100.1.1=u,2.5.4.3.1=a"},
	{name(cn("a"), cn("a"), cn("b"), cn("a")), "CN=a,CN=a,CN=b,CN=a"},
	{name(rel(attr("2.5.4.3", "a"), attr("2.5.4.6", "b"))), "CN=a+C=b"},
	{name(rel(attr("2.5.4.6", "b"), attr("2.5.4.3", "ab"))), "C=b+CN=ab"},                                                     // the shorter one comes first
	{name(rel(attr("2.5.4.3", "b"), attr("2.5.4.10", "a"))), "CN=b+O=a"},                                                      // neither the order of values nor that of the texts of types
	{name(rel(attr("2.5.4.6", "x"), attr("2.5.4.7", "x"), attr("2.5.4.10", "x"), attr("2.5.4.11", "x"))), "C=x+L=x+O=x+OU=x"}, // C before L before O
	{name(rel(attr("2.5.5", "abc"), attr("2.5.4.3", "ab"), attr("2.5.4.200", "a"))), "2.5.5=abc+CN=ab+2.5.4.200=a"},           // of the same length: the shorter type comes first
	{name(rel(attr("2.5.4.3", "abcdefgh"), ia5(api.OIDMail, "abc"), ia5(api.OIDDomain, "ab"))), "CN=abcdefgh+E=abc+DC=ab"},    // DC has the longest type
	{name(cn("z"), rel(attr("2.5.4.3", "a"), attr("2.5.4.6", "ab")), cn("a")), "CN=z,CN=a+C=ab,CN=a"},                         // relative names keep their order
	{name(cn("a,b")), `CN=a\2cb`}, {name(cn("a+b")), `CN=a\2bb`}, {name(cn("a=b")), `CN=a\3db`}, {name(rel(utf8("2.5.4.3", `a\b`))), `CN=a\5cb`}, // what would be taken for something else
	{name(cn("a,O=b")), `CN=a\2cO\3db`}, {name(cn("a+O=b")), `CN=a\2bO\3db`}, {name(rel(utf8("2.5.4.3", `\2c`))), `CN=\5c2c`}, {name(cn(",")), `CN=\2c`}, {name(cn("=")), `CN=\3d`}, {name(cn(",+=")), `CN=\2c\2b\3d`},
	{name(rel(utf8("2.5.4.10", "Société"))), `O=Soci\c3\a9t\c3\a9`}, {name(rel(utf8("2.5.4.10", "€"))), `O=\e2\82\ac`}, {name(rel(utf8("2.5.4.10", "\u0080"))), `O=\c2\80`},
	{name(rel(utf8("2.5.4.3", "a@b"))), "CN=a@b"}, {name(rel(utf8("2.5.4.3", "a_b"))), "CN=a_b"}, {name(rel(utf8("2.5.4.3", "*"))), `CN=\2a`}, {name(rel(utf8("2.5.4.3", `"a";<b>#`))), `CN=\22a\22\3b\3cb\3e\23`}, {name(rel(utf8("2.5.4.3", "a!"))), `CN=a\21`},
	{name(cn(" ")), "CN= "}, {name(cn("  a  b  ")), "CN=  a  b  "}, {name(cn("AZaz09 '()-./:?")), "CN=AZaz09 '()-./:?"}, {name(cn("CN")), "CN=CN"},
	{name(rel(ia5(api.OIDDomain, "example"))), "DC=example"}, {name(rel(ia5(api.OIDDomain, "a*b~"))), `DC=a\2ab\7e`}, {name(rel(ia5(api.OIDMail, `"a,b"@c`))), `E=\22a\2cb\22@c`}, {name(rel(ia5(api.OIDMail, " ")), rel(ia5(api.OIDDomain, " "))), "E= ,DC= "},
	{name(cn(strings.Repeat("a", 64))), "CN=" + strings.Repeat("a", 64)}, {name(cn(strings.Repeat(",", 64))), "CN=" + strings.Repeat(`\2c`, 64)},
	{repeat(cn("a"), 8), "CN=a,CN=a,CN=a,CN=a,CN=a,CN=a,CN=a,CN=a"},
	{name(rel(attr("1.2.2147483647", "a"))), "1.2.2147483647=a"},
}

// TestFormatKnown: P7.6 and P7.7, names with their texts; Parse returns the names, as their attributes are in ascending order here.
func TestFormatKnown(t *testing.T) {
	for _, k := range knownTexts {
		if s := format(t, k.n); s != k.s {
			t.Errorf("Format(%+v) is %q, want %q", k.n, s, k.s)
		}
		if n, err := dname.Parse(k.s); !same(n, k.n) || err != api.OK {
			t.Errorf("Parse(%q) is %+v, %d, want %+v", k.s, n, err, k.n)
		}
	}
}

// TestFormatOrders: P7.6, the attributes of a relative name in every order have the same text.
func TestFormatOrders(t *testing.T) {
	for _, k := range knownTexts {
		for at, r := range k.n.RDNs {
			for _, o := range orders(r) {
				n := clone(k.n)
				n.RDNs[at] = o
				if s := format(t, n); s != k.s {
					t.Errorf("Format(%+v) is %q, want %q", n, s, k.s)
				}
			}
		}
	}
}

// TestFormatKinds: P7.6, the text says nothing of kinds.
func TestFormatKinds(t *testing.T) {
	for _, kind := range []int{api.TagUTF8, api.TagPrintable, api.TagIA5} {
		for id, word := range short {
			if s := format(t, name(rel(api.Attribute{Type: id, Kind: kind, Value: "a,b"}))); s != word+`=a\2cb` {
				t.Errorf("Format of the type %s with kind %d is %q", id, kind, s)
			}
		}
		for _, id := range other {
			if s := format(t, name(rel(api.Attribute{Type: id, Kind: kind, Value: "a,b"}))); s != id+`=a\2cb` {
				t.Errorf("Format of the type %s with kind %d is %q", id, kind, s)
			}
		}
	}
}

// TestFormatRandom: P7.6 and P7.7, random names: Format against the model, and what Parse makes of it.
func TestFormatRandom(t *testing.T) {
	r := rand.New(rand.NewSource(5))
	for range 6000 {
		n := randomName(r)
		s := format(t, n)
		if want := modelFormat(n); s != want {
			t.Fatalf("Format(%+v) is %q, want %q", n, s, want)
		}
		again, err := checkParse(t, s)
		if err == api.ErrString { // a domain or mail address that is not TagIA5
			continue
		}
		if err != api.OK || !dname.Match(again, n) || format(t, again) != s {
			t.Fatalf("Parse of Format(%+v), which is %q, is %+v, %d", n, s, again, err)
		}
	}
}
