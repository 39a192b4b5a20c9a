package dname_test

import (
	"math/rand"
	"slices"
	"strings"
	"testing"

	"certpath/api"
)

// other are object identifiers without a short type.
var other = []string{"2.5.4.5", "2.5.4.8", "1.3", "2.999.1", "1.2.840.113549.1.9.2", "0.9.2342.19200300.100.1.1", "2.2147483567" + strings.Repeat(".2147483647", api.MaxArcs-2)}

// short are the types that have a short form, with it.
var short = map[string]string{
	"2.5.4.3": "CN", "2.5.4.6": "C", "2.5.4.7": "L", "2.5.4.10": "O", "2.5.4.11": "OU", "0.9.2342.19200300.100.1.25": "DC", "1.2.840.113549.1.9.1": "E",
}

// types are all of them, in an order that is always the same.
func types() []string {
	l := slices.Clone(other)
	for id := range short {
		l = append(l, id)
	}
	slices.Sort(l)
	return l
}

// attr returns an attribute with a string of the kind TagPrintable.
func attr(id, value string) api.Attribute {
	return api.Attribute{Type: id, Kind: api.TagPrintable, Value: value}
}

// utf8 returns an attribute with a string of the kind TagUTF8.
func utf8(id, value string) api.Attribute {
	return api.Attribute{Type: id, Kind: api.TagUTF8, Value: value}
}

// ia5 returns an attribute with a string of the kind TagIA5.
func ia5(id, value string) api.Attribute {
	return api.Attribute{Type: id, Kind: api.TagIA5, Value: value}
}

// cn returns a relative name of one attribute.
func cn(value string) []api.Attribute {
	return []api.Attribute{attr(api.OIDCommonName, value)}
}

// rel returns a relative name.
func rel(l ...api.Attribute) []api.Attribute { return l }

// name returns a name.
func name(l ...[]api.Attribute) api.Name { return api.Name{RDNs: l} }

// repeat returns a name of n relative names that are r.
func repeat(r []api.Attribute, n int) api.Name {
	return api.Name{RDNs: slices.Repeat([][]api.Attribute{r}, n)}
}

// clone returns a copy that shares no memory with n.
func clone(n api.Name) api.Name {
	var c api.Name
	for _, r := range n.RDNs {
		c.RDNs = append(c.RDNs, slices.Clone(r))
	}
	return c
}

// same reports whether two names have the same attributes in the same order; nil and empty slices are equivalent.
func same(a, b api.Name) bool {
	return slices.EqualFunc(a.RDNs, b.RDNs, func(x, y []api.Attribute) bool { return slices.Equal(x, y) })
}

// none reports whether n has nothing in it.
func none(n api.Name) bool { return len(n.RDNs) == 0 }

// orders returns r with its attributes in every order.
func orders(r []api.Attribute) [][]api.Attribute {
	if len(r) == 0 {
		return [][]api.Attribute{nil}
	}
	var l [][]api.Attribute
	for i := range r {
		rest := slices.Concat(r[:i], r[i+1:])
		for _, o := range orders(rest) {
			l = append(l, append([]api.Attribute{r[i]}, o...))
		}
	}
	return l
}

// der returns the element with this identifier octet. It writes lengths of up to 65535.
func der(tag int, contents ...string) string {
	c := strings.Join(contents, "")
	head := []byte{byte(tag)}
	switch n := len(c); {
	case n < 128:
		head = append(head, byte(n))
	case n < 256:
		head = append(head, 0x81, byte(n))
	default:
		head = append(head, 0x82, byte(n>>8), byte(n))
	}
	return string(head) + c
}

// randomValue returns a string that is valid for its kind and has from 1 to MaxValue bytes, with a few that match others.
func randomValue(r *rand.Rand) (string, int) {
	few := []string{"a", "A", "a b", " A  B ", "b", "ab", " ", "  ", "a,b", "a+b", "a=b", "a=b,C=d", "Web Server", strings.Repeat("z", api.MaxValue)}
	switch r.Intn(4) {
	case 0:
		return few[r.Intn(len(few))], api.TagPrintable
	case 1:
		return few[r.Intn(len(few))], api.TagUTF8
	case 2:
		b := make([]byte, 1+r.Intn(api.MaxValue>>r.Intn(6)))
		for i := range b {
			b[i] = byte(32 + r.Intn(95))
		}
		return string(b), api.TagIA5
	}
	s := ""
	for range 1 + r.Intn(16) {
		s += string([]rune("aé\u20ac\U0001f600 \\+,=\"A")[r.Intn(11)])
	}
	return s, api.TagUTF8
}

// randomRelative returns a valid relative name.
func randomRelative(r *rand.Rand) []api.Attribute {
	ids := types()
	r.Shuffle(len(ids), func(i, j int) { ids[i], ids[j] = ids[j], ids[i] })
	var l []api.Attribute
	for _, id := range ids[:1+r.Intn(api.MaxAttributes)] {
		value, kind := randomValue(r)
		l = append(l, api.Attribute{Type: id, Kind: kind, Value: value})
	}
	return l
}

// randomName returns a valid name.
func randomName(r *rand.Rand) api.Name {
	var n api.Name
	for range r.Intn(api.MaxRDNs + 1) {
		n.RDNs = append(n.RDNs, randomRelative(r))
	}
	return n
}

// damaged returns n with up to three changes, most of which Check refuses.
func damaged(r *rand.Rand, n api.Name) api.Name {
	n = clone(n)
	for range r.Intn(4) {
		if len(n.RDNs) == 0 || r.Intn(12) == 0 {
			n.RDNs = append(n.RDNs, repeat(cn("a"), r.Intn(12)).RDNs...)
			continue
		}
		at := r.Intn(len(n.RDNs))
		if len(n.RDNs[at]) == 0 || r.Intn(10) == 0 {
			n.RDNs[at] = nil
			continue
		}
		l := n.RDNs[at]
		a := &l[r.Intn(len(l))]
		switch r.Intn(6) {
		case 0:
			a.Type = []string{"", "2", "1.40", "2.5.4.03", "CN", "2.5.4.2147483648"}[r.Intn(6)]
		case 1:
			a.Kind = []int{api.TagOctets, 0, -1, api.TagUTF8 + 256, api.TagIA5, api.TagPrintable}[r.Intn(6)]
		case 2:
			a.Value = []string{"", "\x00", "é", "\xff", "a*b", "a\x7f"}[r.Intn(6)]
		case 3:
			a.Value = strings.Repeat("a", api.MaxValue) + []string{"a", "*", "\x00", "é"}[r.Intn(4)]
		case 4:
			n.RDNs[at] = append(l, l[r.Intn(len(l))])
		case 5:
			n.RDNs[at] = append(l, randomRelative(r)...)
		}
	}
	return n
}

// seenEnough reports errors that occurred too seldom in a random test.
func seenEnough(t *testing.T, seen map[api.Errno]int, errs ...api.Errno) {
	t.Helper()
	for _, err := range errs {
		if seen[err] < 100 {
			t.Errorf("only %d random inputs with error %d", seen[err], err)
		}
	}
}
