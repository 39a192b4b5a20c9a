package subtree_test

import (
	"fmt"
	"math"
	"math/rand"
	"slices"
	"strconv"
	"strings"

	"certpath/api"
	"certpath/dname"
	"certpath/gname"
)

// The four kinds, by the numbers of the document, in ascending order.
const (
	kindMail      = 1
	kindDNS       = 2
	kindDirectory = 4
	kindAddress   = 7
)

// fourKinds are all of them.
var fourKinds = []int{kindMail, kindDNS, kindDirectory, kindAddress}

// otherKinds are numbers that are none of the four: between them, next to them, and those that become one of them if bits are lost.
var otherKinds = []int{0, 3, 5, 6, 8, -1, -2, -4, -7, 0x81, 0x82, 0xa4, 0x87, 1<<8 + 1, 1<<8 + 2, 1<<16 + 4, 1<<32 + 1, 1<<32 + 7, math.MinInt, math.MinInt + 4, math.MaxInt}

// mustParse returns the general name of a text: one of gname.Parse, or a kind as a number, a colon, and any Text.
func mustParse(s string) api.GeneralName {
	word, rest, _ := strings.Cut(s, ":")
	if kind, err := strconv.Atoi(word); err == nil {
		return api.GeneralName{Kind: kind, Text: rest}
	}
	g, err := gname.Parse(s)
	if err != api.OK {
		panic(fmt.Sprintf("Parse(%q) has the error %d", s, err))
	}
	return g
}

// names returns the general names of texts that have spaces between them.
func names(s string) []api.GeneralName {
	var l []api.GeneralName
	for _, word := range strings.Fields(s) {
		l = append(l, mustParse(word))
	}
	return l
}

// trees returns the subtrees of a text: the permitted ones, and behind a ! the excluded ones.
func trees(s string) api.Subtrees {
	permitted, excluded, _ := strings.Cut(s, "!")
	return api.Subtrees{Permitted: names(permitted), Excluded: names(excluded)}
}

// state returns the state with the constraints of texts.
func state(l ...string) api.NameState {
	var st api.NameState
	for _, s := range l {
		st.Constraints = append(st.Constraints, trees(s))
	}
	return st
}

// mustName returns the name of a text.
func mustName(s string) api.Name {
	n, err := dname.Parse(s)
	if err != api.OK {
		panic(fmt.Sprintf("Parse(%q) has the error %d", s, err))
	}
	return n
}

// dirName returns a name as a general name.
func dirName(n api.Name) api.GeneralName { return api.GeneralName{Kind: kindDirectory, Name: n} }

// attr returns an attribute with a string of the kind TagPrintable.
func attr(id, value string) api.Attribute {
	return api.Attribute{Type: id, Kind: api.TagPrintable, Value: value}
}

// mailAttr returns an attribute with a mail address.
func mailAttr(value string) api.Attribute {
	return api.Attribute{Type: "1.2.840.113549.1.9.1", Kind: api.TagIA5, Value: value}
}

// cn returns a relative name of one attribute.
func cn(value string) []api.Attribute { return []api.Attribute{attr("2.5.4.3", value)} }

// name returns a name.
func name(l ...[]api.Attribute) api.Name { return api.Name{RDNs: l} }

// bad are names that dname.Check refuses, one for each of its errors.
var bad = map[api.Errno]api.GeneralName{
	api.ErrLimit:     dirName(api.Name{RDNs: slices.Repeat([][]api.Attribute{cn("a")}, api.MaxRDNs+1)}),
	api.ErrName:      dirName(name(nil)),
	api.ErrOID:       dirName(name([]api.Attribute{attr("1", "a")})),
	api.ErrString:    dirName(name(cn("a@b"))),
	api.ErrDuplicate: dirName(name([]api.Attribute{attr("1.2", "a"), attr("1.2", "b")})),
}

// refused are general names that gname.Check refuses as constraints: names that are no bases, texts that are neither, what has a Text and a Name, and other kinds.
func refused() []api.GeneralName {
	l := names(`1: 1:a..b 1:*.a.b 1:a@b@c 1:@ 2:*.a.b 2:.a.b 2:a..b 2:a@b 2:é 7:abcd 7:abcdefgh 7: 4:a 0: 3:a.b 3:A.B 5:a 8:a -1:a`)
	l = append(l, api.GeneralName{Kind: kindDNS, Text: "a.b", Name: name(cn("a"))}, api.GeneralName{Kind: kindDirectory, Text: "a", Name: name(cn("a"))})
	for _, err := range []api.Errno{api.ErrLimit, api.ErrName, api.ErrOID, api.ErrString, api.ErrDuplicate} {
		l = append(l, bad[err])
	}
	for _, k := range otherKinds {
		l = append(l, api.GeneralName{Kind: k, Text: "a.b", Name: name(cn("a"))})
	}
	return l
}

// bases are general names that gname.Check accepts as constraints; those of each kind are nested, the same in another case, and apart.
func bases() []api.GeneralName {
	l := names(`mail:b mail:B mail:a.b mail:A.B mail:.b mail:.B mail:.a.b mail:x@b mail:x@B mail:X@b mail:x@a.b mail:y@a.b mail:c mail:.c mail:x@c
		dns: dns:b dns:B dns:a.b dns:A.b dns:x.a.b dns:y.a.b dns:c dns:ab dns:x.c
		dir: dir:O=x dir:O=X dir:O=y dir:O=x,CN=a dir:O=x,CN=A dir:O=x,CN=b dir:O=x,CN=a,CN=c dir:O=x+CN=a dir:CN=a+O=x dir:O=x,O=x
		ip:0000000000000000 ip:0a000000ff000000 ip:0a010000ffff0000 ip:0a010203ffffffff ip:0a020000ffff0000 ip:0b000000ff000000 ip:61626300ffffff00`)
	for _, ones := range []string{"", "\xf0", strings.Repeat("\xff", 16)} { // ranges of the addresses with 16 bytes
		l = append(l, api.GeneralName{Kind: kindAddress, Text: strings.Repeat("\x00", 16) + ones + strings.Repeat("\x00", 16-len(ones))})
	}
	return append(l, dirName(name([]api.Attribute{attr("2.5.4.10", " x  "), attr("2.5.4.3", "A")})))
}

// targets are general names that gname.Check accepts, within some of the bases and within none.
func targets() []api.GeneralName {
	return names(`mail:x@b mail:x@B mail:X@b mail:x@a.b mail:X@A.B mail:y@a.b mail:z@d.a.b mail:x@c mail:z@x.c mail:x@d mail:x@ab
		dns:b dns:B dns:a.b dns:A.B dns:x.a.b dns:y.a.b dns:z.y.a.b dns:\2a.a.b dns:\2a.x.a.b dns:\2a.b.c dns:c dns:x.c dns:ab dns:d
		dir: dir:O=x dir:O=X dir:O=y dir:O=x,CN=a dir:O=x,CN=b dir:O=x,CN=a,CN=c dir:O=X,CN=A,CN=d,CN=e dir:O=x+CN=a dir:O=x+CN=a,CN=b dir:O=z dir:O=x,O=x,O=x
		ip:0a010203 ip:0a010204 ip:0a020304 ip:0a7f0000 ip:0b000001 ip:7f000001 ip:61626364 ip:00000000
		ip:00000000000000000000000000000000 ip:00000000000000000000000000000001 ip:0fffffffffffffffffffffffffffffff ip:20010db8000000000000000000000001`)
}

// clone returns a copy that shares no memory with g.
func clone(g api.GeneralName) api.GeneralName {
	rdns := g.Name.RDNs
	g.Name.RDNs = nil
	for _, r := range rdns {
		g.Name.RDNs = append(g.Name.RDNs, slices.Clone(r))
	}
	return g
}

// cloneNames returns a copy that shares no memory with l.
func cloneNames(l []api.GeneralName) []api.GeneralName {
	var c []api.GeneralName
	for _, g := range l {
		c = append(c, clone(g))
	}
	return c
}

// cloneTrees returns a copy that shares no memory with s.
func cloneTrees(s api.Subtrees) api.Subtrees {
	return api.Subtrees{Permitted: cloneNames(s.Permitted), Excluded: cloneNames(s.Excluded)}
}

// cloneState returns a copy that shares no memory with st.
func cloneState(st api.NameState) api.NameState {
	var c api.NameState
	for _, s := range st.Constraints {
		c.Constraints = append(c.Constraints, cloneTrees(s))
	}
	return c
}

// identical reports whether two general names have the same parts, with attributes in the same order; nil and empty slices are equivalent.
func identical(a, b api.GeneralName) bool {
	return a.Kind == b.Kind && a.Text == b.Text && slices.EqualFunc(a.Name.RDNs, b.Name.RDNs, func(x, y []api.Attribute) bool { return slices.Equal(x, y) })
}

// identicalNames reports whether two lists have identical general names.
func identicalNames(a, b []api.GeneralName) bool { return slices.EqualFunc(a, b, identical) }

// identicalTrees reports whether two constraints have identical subtrees.
func identicalTrees(a, b api.Subtrees) bool {
	return identicalNames(a.Permitted, b.Permitted) && identicalNames(a.Excluded, b.Excluded)
}

// identicalStates reports whether two states have identical constraints.
func identicalStates(a, b api.NameState) bool {
	return slices.EqualFunc(a.Constraints, b.Constraints, identicalTrees)
}

// identicalReduced reports whether two reduced states have identical parts.
func identicalReduced(a, b api.Reduced) bool {
	return slices.Equal(a.Limited, b.Limited) && identicalNames(a.Permitted, b.Permitted) && identicalNames(a.Excluded, b.Excluded)
}

// none reports whether s has no subtrees.
func none(s api.Subtrees) bool { return len(s.Permitted) == 0 && len(s.Excluded) == 0 }

// show returns what an error says about general names.
func show(l ...api.GeneralName) string {
	var words []string
	for _, g := range l {
		word := fmt.Sprintf("{%d %.100q %.100s}", g.Kind, g.Text, fmt.Sprint(g.Name.RDNs))
		if s, err := gname.Format(g); err == api.OK && (gname.Check(g, true) == api.OK || gname.Check(g, false) == api.OK) {
			word = s
		}
		words = append(words, fmt.Sprintf("%.100s", word))
	}
	return "[" + strings.Join(words, " ") + "]"
}

// showTrees returns what an error says about constraints.
func showTrees(l ...api.Subtrees) string {
	var words []string
	for _, s := range l {
		words = append(words, show(s.Permitted...)+"!"+show(s.Excluded...))
	}
	return fmt.Sprintf("%.2000s", strings.Join(words, " "))
}

// der returns the element with this identifier octet. It writes lengths of up to 2^24 - 1.
func der(tag int, contents ...string) string {
	c := strings.Join(contents, "")
	head := []byte{byte(tag)}
	switch n := len(c); {
	case n < 128:
		head = append(head, byte(n))
	case n < 256:
		head = append(head, 0x81, byte(n))
	case n < 65536:
		head = append(head, 0x82, byte(n>>8), byte(n))
	default:
		head = append(head, 0x83, byte(n>>16), byte(n>>8), byte(n))
	}
	return string(head) + c
}

// pick returns up to n elements of l, some of them perhaps several times.
func pick(r *rand.Rand, n int, l []api.GeneralName) []api.GeneralName {
	var picked []api.GeneralName
	for range r.Intn(n + 1) {
		picked = append(picked, clone(l[r.Intn(len(l))]))
	}
	return picked
}

// randomState returns a state of a few constraints with subtrees out of l.
func randomState(r *rand.Rand, l []api.GeneralName) api.NameState {
	var st api.NameState
	for range r.Intn(5) {
		s := api.Subtrees{Permitted: pick(r, 5, l), Excluded: pick(r, r.Intn(4), l)}
		st.Constraints = append(st.Constraints, s)
	}
	return st
}

// oneKind returns those of l that have a kind.
func oneKind(l []api.GeneralName, kind int) []api.GeneralName {
	return slices.DeleteFunc(cloneNames(l), func(g api.GeneralName) bool { return g.Kind != kind })
}
