package subtree_test

import (
	"math/rand"
	"slices"
	"strings"
	"testing"

	"certpath/api"
	"certpath/gname"
	"certpath/subtree"
	"certpath/tlv"
)

// modelEncode is P10.2 for Encode.
func modelEncode(s api.Subtrees) (string, api.Errno) {
	if err := modelCheck(s); err != api.OK {
		return "", err
	}
	part := func(tag int, l []api.GeneralName) string {
		contents := ""
		for _, g := range l {
			b, _ := gname.Encode(g, true)
			contents += der(0x30, b)
		}
		if contents == "" {
			return ""
		}
		return der(tag, contents)
	}
	return der(0x30, part(0xa0, s.Permitted), part(0xa1, s.Excluded)), api.OK
}

// ordered returns s with the attributes of each relative name in the order that an encoding has. It uses nothing but gname and tlv.
func ordered(s api.Subtrees) api.Subtrees {
	order := func(l []api.GeneralName) []api.GeneralName {
		var c []api.GeneralName
		for _, g := range l {
			b, _ := gname.Encode(g, true)
			e, _ := tlv.One(b)
			g, _ = gname.Decode(e, true)
			c = append(c, g)
		}
		return c
	}
	return api.Subtrees{Permitted: order(s.Permitted), Excluded: order(s.Excluded)}
}

// checkEncode compares Encode with P10.2, and Decode of what it writes with s, and returns the error of Encode.
func checkEncode(t *testing.T, s api.Subtrees) api.Errno {
	t.Helper()
	want, wantErr := modelEncode(s)
	b, err := subtree.Encode(s)
	if b != want || err != wantErr {
		t.Fatalf("Encode(%s) is %.200x, %d, want %.200x, %d", showTrees(s), b, err, want, wantErr)
	}
	if err != api.OK {
		return err
	}
	back, err := subtree.Decode(b)
	if err != api.OK || !identicalTrees(back, ordered(s)) {
		t.Fatalf("Decode of Encode(%s) is %s, %d", showTrees(s), showTrees(back), err)
	}
	return api.OK
}

// TestEncodeKnown: P10.2, constraints whose bytes are written out here.
func TestEncodeKnown(t *testing.T) {
	for _, k := range []struct{ s, want string }{
		{"dns:a.b", "\x30\x09\xa0\x07\x30\x05\x82\x03a.b"},
		{"! dns:a.b", "\x30\x09\xa1\x07\x30\x05\x82\x03a.b"},
		{"dns: ! mail:.b", "\x30\x0e\xa0\x04\x30\x02\x82\x00\xa1\x06\x30\x04\x81\x02.b"},
		{"dns:B dns:a dns:B", "\x30\x11\xa0\x0f\x30\x03\x82\x01B\x30\x03\x82\x01a\x30\x03\x82\x01B"}, // in their order, and none is left out
		{"ip:0a000000ff000000", "\x30\x0e\xa0\x0c\x30\x0a\x87\x08\x0a\x00\x00\x00\xff\x00\x00\x00"},
		{"! dir:", "\x30\x08\xa1\x06\x30\x04\xa4\x02\x30\x00"},
		{"dir:CN=A ! mail:x@b mail:b", "\x30\x22\xa0\x12\x30\x10\xa4\x0e\x30\x0c\x31\x0a\x30\x08\x06\x03\x55\x04\x03\x13\x01A\xa1\x0c\x30\x05\x81\x03x@b\x30\x03\x81\x01b"},
	} {
		s := trees(k.s)
		if b, err := subtree.Encode(s); b != k.want || err != api.OK {
			t.Errorf("Encode(%s) is %x, %d, want %x", k.s, b, err, k.want)
		}
		if got, err := subtree.Decode(k.want); !identicalTrees(got, s) || err != api.OK {
			t.Errorf("Decode(%x) is %s, %d, want %s", k.want, showTrees(got), err, k.s)
		}
	}
	s := api.Subtrees{Permitted: []api.GeneralName{}, Excluded: names("dns:a")}
	if b, err := subtree.Encode(s); b != "\x30\x07\xa1\x05\x30\x03\x82\x01a" || err != api.OK {
		t.Errorf("Encode with an empty list is %x, %d", b, err)
	}
	descending := dirName(name([]api.Attribute{attr("2.5.4.10", "B"), attr("2.5.4.3", "A")}))
	const want = "\x30\x20\xa0\x1e\x30\x1c\xa4\x1a\x30\x18\x31\x16\x30\x08\x06\x03\x55\x04\x03\x13\x01A\x30\x0a\x06\x03\x55\x04\x0a\x13\x03BBB"
	descending.Name.RDNs[0][0].Value = "BBB"
	if b, err := subtree.Encode(api.Subtrees{Permitted: []api.GeneralName{descending}}); b != want || err != api.OK {
		t.Errorf("Encode of a name with attributes in another order is %x, %d, want %x", b, err, want)
	}
}

// TestEncodeLengths: P10.2, elements whose lengths need one octet, two, three and four.
func TestEncodeLengths(t *testing.T) {
	for _, n := range []int{1, 60, 61, 62, 63} {
		for _, k := range []int{1, 2, 3, 4, 16} {
			label := mustParse("dns:" + strings.Repeat("a", n))
			l := slices.Repeat([]api.GeneralName{label}, k)
			checkEncode(t, api.Subtrees{Permitted: l})
			checkEncode(t, api.Subtrees{Excluded: l})
			checkEncode(t, api.Subtrees{Permitted: l, Excluded: l})
		}
	}
}

// TestEncodeGreatest: P10.2, the constraints with the longest encoding, which has 129,416 contents octets, fewer than MaxBytes.
func TestEncodeGreatest(t *testing.T) {
	n := api.Name{}
	for range api.MaxRDNs {
		var r []api.Attribute
		for i := range api.MaxAttributes {
			id := "2.2147483567" + strings.Repeat(".2147483647", api.MaxArcs-3) + ".214748364" + string(rune('4'+i))
			r = append(r, api.Attribute{Type: id, Kind: api.TagIA5, Value: strings.Repeat("a", api.MaxValue)})
		}
		n.RDNs = append(n.RDNs, r)
	}
	l := slices.Repeat([]api.GeneralName{dirName(n)}, api.MaxNames)
	for _, s := range []api.Subtrees{{Permitted: l}, {Excluded: l}, {Permitted: l, Excluded: l}} {
		if err := checkEncode(t, s); err != api.OK {
			t.Errorf("the greatest constraints have the error %d", err)
		}
	}
	if b, _ := subtree.Encode(api.Subtrees{Permitted: l, Excluded: l}); len(b) != 5+129416 {
		t.Errorf("the greatest constraints have %d bytes", len(b))
	}
}

// TestEncodeRandom: P10.2, constraints of all kinds, with some that are refused, also with attributes in other orders.
func TestEncodeRandom(t *testing.T) {
	r := rand.New(rand.NewSource(2))
	good, wrong := bases(), refused()
	seen := map[api.Errno]int{}
	for range 5000 {
		s := api.Subtrees{Permitted: pick(r, api.MaxNames, good), Excluded: pick(r, api.MaxNames, good)}
		if r.Intn(4) == 0 {
			s.Permitted = append(s.Permitted, pick(r, 1, wrong)...)
			s.Excluded = append(pick(r, 1, wrong), s.Excluded...)
		}
		seen[checkEncode(t, s)]++
	}
	for _, err := range []api.Errno{api.OK, api.ErrValue, api.ErrLimit, api.ErrName} {
		if seen[err] < 10 {
			t.Errorf("only %d constraints with the error %d", seen[err], err)
		}
	}
}
