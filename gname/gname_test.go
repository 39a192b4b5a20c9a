package gname_test

import (
	"fmt"
	"math"
	"math/rand"
	"slices"
	"strings"
	"testing"

	"certpath/api"
	"certpath/dname"
	"certpath/host"
)

// The four kinds, by the numbers of the document.
const (
	kindMail      = 1
	kindDNS       = 2
	kindDirectory = 4
	kindAddress   = 7
)

// fourKinds are all of them.
var fourKinds = []int{kindMail, kindDNS, kindDirectory, kindAddress}

// otherKinds are numbers that are none of the four: between them, next to them, and those that become one of them if bits are lost.
var otherKinds = []int{
	0, 3, 5, 6, 8, 9, 10, 16, -1, -2, -4, -7, -8, 0x81, 0x82, 0x84, 0x87, 0xa1, 0xa2, 0xa4, 0xa7, 1 << 8, 1<<8 + 1, 1<<8 + 2, 1<<8 + 4, 1<<8 + 7,
	1<<16 + 1, 1<<32 + 1, 1<<32 + 2, 1<<32 + 4, 1<<32 + 7, math.MinInt, math.MinInt + 1, math.MinInt + 4, math.MaxInt, math.MaxInt - 3,
}

// mailName returns a mail address as a general name.
func mailName(s string) api.GeneralName { return api.GeneralName{Kind: kindMail, Text: s} }

// dnsName returns a DNS name as a general name.
func dnsName(s string) api.GeneralName { return api.GeneralName{Kind: kindDNS, Text: s} }

// dirName returns a name as a general name.
func dirName(n api.Name) api.GeneralName { return api.GeneralName{Kind: kindDirectory, Name: n} }

// ipName returns an address as a general name.
func ipName(b string) api.GeneralName { return api.GeneralName{Kind: kindAddress, Text: b} }

// attr returns an attribute with a string of the kind TagPrintable.
func attr(id, value string) api.Attribute {
	return api.Attribute{Type: id, Kind: api.TagPrintable, Value: value}
}

// cn returns a relative name of one attribute.
func cn(value string) []api.Attribute {
	return []api.Attribute{attr(api.OIDCommonName, value)}
}

// name returns a name.
func name(l ...[]api.Attribute) api.Name { return api.Name{RDNs: l} }

// clone returns a copy that shares no memory with g.
func clone(g api.GeneralName) api.GeneralName {
	g.Text = strings.Clone(g.Text)
	rdns := g.Name.RDNs
	g.Name.RDNs = nil
	for _, r := range rdns {
		g.Name.RDNs = append(g.Name.RDNs, slices.Clone(r))
	}
	return g
}

// identical reports whether two general names have the same parts, with attributes in the same order; nil and empty slices are equivalent.
func identical(a, b api.GeneralName) bool {
	return a.Kind == b.Kind && a.Text == b.Text && slices.EqualFunc(a.Name.RDNs, b.Name.RDNs, func(x, y []api.Attribute) bool { return slices.Equal(x, y) })
}

// show returns what an error says about g.
func show(g api.GeneralName) string {
	return fmt.Sprintf("{%d %.200q %.200s}", g.Kind, g.Text, fmt.Sprint(g.Name.RDNs))
}

// none reports whether g is the zero value.
func none(g api.GeneralName) bool { return identical(g, api.GeneralName{}) }

// ordered returns g with the attributes of each relative name in the order that an encoding has. It uses nothing but dname.
func ordered(t *testing.T, g api.GeneralName) api.GeneralName {
	t.Helper()
	b, err := dname.Encode(g.Name)
	if err != api.OK {
		t.Fatalf("the name of %+v has the error %d", g, err)
	}
	g.Name, _ = dname.Decode(b)
	return g
}

// der returns the element with this identifier octet. It writes lengths of up to 2^24 - 1.
func der(tag int, contents ...string) string {
	c := strings.Join(contents, "")
	head := []byte{byte(tag)}
	switch n := len(c); {
	case n < 128:
		head = append(head, byte(n))
	case n < 256:
		head = append(head, 0x81, byte(n))
	case n < 65536:
		head = append(head, 0x82, byte(n>>8), byte(n))
	default:
		head = append(head, 0x83, byte(n>>16), byte(n>>8), byte(n))
	}
	return string(head) + c
}

// zeros and ones are bytes of addresses.
func zeros(n int) string { return strings.Repeat("\x00", n) }
func ones(n int) string  { return strings.Repeat("\xff", n) }

// Addresses and ranges.
var (
	home   = "\x7f\x00\x00\x01"
	ten    = "\x0a\x00\x00\x00\xff\x00\x00\x00"
	tenOne = "\x0a\x01\x00\x00\xff\xff\x00\x00"
	any4   = zeros(8)
	any16  = zeros(32)
	six    = "\x20\x01\x0d\xb8" + zeros(11) + "\x01"
	sixth  = "\x20\x01\x0d\xb8" + zeros(12) + ones(4) + zeros(12)
)

// long returns a DNS name of n bytes, from 67 to 129. Only that of 129 bytes is too long.
func long(n int) string {
	return strings.Repeat("a", 63) + "." + strings.Repeat("b", n-66) + ".c"
}

// texts are what the tests write into Text: mail addresses, DNS names, patterns, bases, addresses, ranges, and texts that are none of them.
var texts = []string{
	"", "ann@example.org", "Ann@example.org", "ann@EXAMPLE.org", "bob@example.org", "ann@www.example.org", "a@b", "A@B", "a@B", "x.y+z@b",
	"example.org", "Example.ORG", "www.example.org", "WWW.example.org", "org", "b", "B", "a.b", "A.b", "c.b", "ab", "*.example.org", "*.EXAMPLE.org", "*.a.b", "*.b",
	".example.org", ".Example.org", ".www.example.org", ".b", ".org", "..b", ".", "@", "a@", "@b", "a@b@c", "a@.b", "a@*.a.b", "a b@c", "a_b", "A_b", "a..b", "a.", "-a", "a-", " a", "a ", "a  b", "a b", "*", "*.",
	long(128), long(129), "a@" + long(126), "a@" + long(127), strings.Repeat("a", 64) + "@b", strings.Repeat("a", 65) + "@b", "*." + long(126), "*." + long(127),
	home, "\x7f\x00\x00\x02", "\x0a\x01\x02\x03", "\x0a\x02\x02\x03", "abcd", "ABCD", "a.bc", "A.BC", six, "abcdefghijklmnop", "abcdefghijklmnoP", zeros(4), zeros(16), ones(4), ones(16),
	ten, tenOne, any4, any16, sixth, ones(8), ones(32), "abcd" + ones(4), "ABCD" + ones(4), "\x0a\x00\x00\x01\xff\x00\x00\x00", "\x0a\x00\x00\x00\xff\x00\xff\x00", "abcdefgh", "ABCDEFGH", zeros(3), zeros(5), zeros(9), zeros(31), zeros(33),
	"é", "É", "\u212a", "k", "K", "\u017f", "s", "S", "\x00", "\xff", "\xfe", "[", "{", "`", "@`", "\\2a", "\n", "a,b",
}

// good are names that dname.Check accepts.
var good = []api.Name{
	{}, name(cn("a")), name(cn("A")), name(cn("b")), name(cn("a"), cn("b")), name(cn(" a "), cn("B")), name(cn("b"), cn("a")), name(cn("a"), cn("b"), cn("c")),
	name([]api.Attribute{attr(api.OIDCommonName, "a"), attr(api.OIDCountry, "b")}), name([]api.Attribute{attr(api.OIDCountry, "b"), attr(api.OIDCommonName, "a")}),
	name([]api.Attribute{{Type: api.OIDCommonName, Kind: api.TagUTF8, Value: "é"}}), name([]api.Attribute{{Type: api.OIDMail, Kind: api.TagIA5, Value: "ann@example.org"}}, cn("a")),
	{RDNs: slices.Repeat([][]api.Attribute{cn("a")}, api.MaxRDNs)},
	name([]api.Attribute{attr("2.5.4.10", "a"), attr("2.5.4.7", "ab"), attr("2.5.4.6", "abc"), attr("2.5.4.3", strings.Repeat("a", api.MaxValue))}),
}

// bad are names that dname.Check refuses, one for each of its errors.
var bad = map[api.Errno]api.Name{
	api.ErrLimit:     {RDNs: slices.Repeat([][]api.Attribute{cn("a")}, api.MaxRDNs+1)},
	api.ErrName:      name(nil),
	api.ErrOID:       name([]api.Attribute{attr("1", "a")}),
	api.ErrString:    name(cn("a@b")),
	api.ErrDuplicate: name([]api.Attribute{attr("1.2", "a"), attr("1.2", "b")}),
}

// badNames are those of bad, in an order that is always the same.
func badNames() []api.Name {
	var l []api.Name
	for _, err := range []api.Errno{api.ErrLimit, api.ErrName, api.ErrOID, api.ErrString, api.ErrDuplicate} {
		l = append(l, bad[err])
	}
	return append(l, name(cn(strings.Repeat("a", api.MaxValue+1))), name(cn("a"), cn("")), name([]api.Attribute{attr("1.2", "a"), attr("1.2", "a")}))
}

// eachName calls f with general names of all kinds, the four and others, with all texts and names.
func eachName(f func(g api.GeneralName)) {
	names := append(append(slices.Clone(good), badNames()...), api.Name{RDNs: [][]api.Attribute{}})
	for _, k := range append(slices.Clone(fourKinds), otherKinds...) {
		for _, s := range texts {
			for _, n := range names {
				f(api.GeneralName{Kind: k, Text: s, Name: n})
			}
		}
	}
}

// plain are general names that have a Text or a Name alone: each kind with each text, and each name.
func plain() []api.GeneralName {
	var l []api.GeneralName
	for _, k := range []int{kindMail, kindDNS, kindAddress} {
		for _, s := range texts {
			l = append(l, api.GeneralName{Kind: k, Text: s})
		}
	}
	for _, n := range append(slices.Clone(good), badNames()...) {
		l = append(l, dirName(n))
	}
	return l
}

// isName and isBase say what the Text of a kind may be, by P9.1.
var (
	isName = map[int]func(s string) bool{kindMail: host.Mail, kindDNS: host.Pattern, kindAddress: host.Address}
	isBase = map[int]func(s string) bool{kindMail: host.MailBase, kindDNS: host.Base, kindAddress: host.Range}
)

// modelCheck is P9.1: all errors are noted in their order.
func modelCheck(g api.GeneralName, constraint bool) api.Errno {
	var found []api.Errno
	note := func(err api.Errno, applies bool) {
		if applies {
			found = append(found, err)
		}
	}
	valid := isName[g.Kind]
	if constraint {
		valid = isBase[g.Kind]
	}
	note(api.ErrName, !slices.Contains(fourKinds, g.Kind))
	note(api.ErrName, g.Kind == kindDirectory && g.Text != "")
	note(api.ErrName, g.Kind != kindDirectory && len(g.Name.RDNs) != 0)
	note(api.ErrName, valid != nil && !valid(g.Text))
	if err := dname.Check(g.Name); g.Kind == kindDirectory {
		note(err, err != api.OK)
	}
	if len(found) > 0 {
		return found[0]
	}
	return api.OK
}

// randomText returns a text of a kind that has one: a name, or a base.
func randomText(r *rand.Rand, kind int, base bool) string {
	labels := []string{"a", "A", "b", "B", "org", "Org", "x-y", "0", "www"}
	domain := labels[r.Intn(len(labels))]
	for range r.Intn(3) {
		domain += "." + labels[r.Intn(len(labels))]
	}
	local := []string{"ann", "Ann", "a.b", "!#$%&'*+-/=?^_`{|}~"}[r.Intn(4)]
	switch {
	case kind == kindMail && base:
		return []string{domain, "." + domain, local + "@" + domain}[r.Intn(3)]
	case kind == kindMail:
		return local + "@" + domain
	case kind == kindDNS && base:
		return []string{domain, domain, domain, ""}[r.Intn(4)]
	case kind == kindDNS:
		return []string{domain, "*.a." + domain}[r.Intn(2)]
	}
	n := []int{4, 16}[r.Intn(2)]
	a := make([]byte, 2*n)
	for i := range n {
		a[i] = byte(r.Intn(256))
	}
	if !base {
		return string(a[:n])
	}
	for i, k := 0, r.Intn(8*n+1); i < 8*n; i++ {
		bit := byte(0x80) >> (i % 8)
		if i < k {
			a[n+i/8] |= bit
		} else {
			a[i/8] &^= bit
		}
	}
	return string(a)
}

// randomDirectory returns a name that dname.Check accepts, with attributes in any order.
func randomDirectory(r *rand.Rand) api.Name {
	var n api.Name
	for range r.Intn(4) {
		ids := []string{api.OIDCommonName, api.OIDCountry, api.OIDOrganization, api.OIDMail, "1.2.3", "2.999"}
		r.Shuffle(len(ids), func(i, j int) { ids[i], ids[j] = ids[j], ids[i] })
		var l []api.Attribute
		for _, id := range ids[:1+r.Intn(4)] {
			kind := []int{api.TagPrintable, api.TagUTF8, api.TagIA5}[r.Intn(3)]
			l = append(l, api.Attribute{Type: id, Kind: kind, Value: []string{"a", "A", " a", "b", "Web  Server", "a,b+c=d"}[r.Intn(6)]})
		}
		n.RDNs = append(n.RDNs, l)
	}
	return n
}

// randomName returns a general name that Check accepts.
func randomName(r *rand.Rand, constraint bool) api.GeneralName {
	k := fourKinds[r.Intn(4)]
	if k == kindDirectory {
		return dirName(randomDirectory(r))
	}
	return api.GeneralName{Kind: k, Text: randomText(r, k, constraint)}
}
