package gname_test

import (
	"math/rand"
	"testing"

	"certpath/api"
	"certpath/dname"
	"certpath/gname"
	"certpath/tlv"
)

// octets are the identifier octets of the four kinds.
var octets = map[int]int{kindMail: 0x81, kindDNS: 0x82, kindDirectory: 0xa4, kindAddress: 0x87}

// modelEncode is P9.2 for Encode.
func modelEncode(g api.GeneralName, constraint bool) (string, api.Errno) {
	if err := modelCheck(g, constraint); err != api.OK {
		return "", err
	}
	contents := g.Text
	if g.Kind == kindDirectory {
		contents, _ = dname.Encode(g.Name)
	}
	return der(octets[g.Kind], contents), api.OK
}

// checkEncode compares Encode with P9.2, and Decode with P9.6, and returns the error of Encode.
func checkEncode(t *testing.T, g api.GeneralName, constraint bool) api.Errno {
	t.Helper()
	want, wantErr := modelEncode(g, constraint)
	b, err := gname.Encode(g, constraint)
	if b != want || err != wantErr {
		t.Fatalf("Encode(%s, %v) is %.200x, %d, want %.200x, %d", show(g), constraint, b, err, want, wantErr)
	}
	if err != api.OK {
		return err
	}
	e, err := tlv.One(b)
	if err != api.OK {
		t.Fatalf("Encode(%s, %v) is %x, which is no element: %d", show(g), constraint, b, err)
	}
	back, err := gname.Decode(e, constraint)
	if err != api.OK || !identical(back, ordered(t, g)) {
		t.Fatalf("Decode of Encode(%s, %v) is %s, %d", show(g), constraint, show(back), err)
	}
	return api.OK
}

// TestEncodeKnown: P9.2, the bytes of elements of each kind, as names and as constraints.
func TestEncodeKnown(t *testing.T) {
	for _, k := range []struct {
		g          api.GeneralName
		constraint bool
		want       string
	}{
		{dnsName("a.b"), false, "\x82\x03\x61\x2e\x62"}, {dnsName("a.b"), true, "\x82\x03a.b"}, {dnsName("*.A.b"), false, "\x82\x05*.A.b"}, {dnsName(""), true, "\x82\x00"},
		{dnsName(long(127)), false, "\x82\x7f" + long(127)}, {dnsName(long(128)), true, "\x82\x81\x80" + long(128)}, {dnsName("*." + long(126)), false, "\x82\x81\x80*." + long(126)},
		{mailName("Ann@Example.org"), false, "\x81\x0fAnn@Example.org"}, {mailName("a@b"), true, "\x81\x03a@b"}, {mailName("b"), true, "\x81\x01b"}, {mailName(".b"), true, "\x81\x02.b"}, {mailName("a@" + long(126)), false, "\x81\x81\x80a@" + long(126)},
		{ipName(home), false, "\x87\x04\x7f\x00\x00\x01"}, {ipName(ten), true, "\x87\x08\x0a\x00\x00\x00\xff\x00\x00\x00"}, {ipName(six), false, "\x87\x10" + six}, {ipName(sixth), true, "\x87\x20" + sixth},
		{dirName(api.Name{}), false, "\xa4\x02\x30\x00"}, {dirName(api.Name{}), true, "\xa4\x02\x30\x00"},
		{dirName(name(cn("A"))), false, "\xa4\x0e\x30\x0c\x31\x0a\x30\x08\x06\x03\x55\x04\x03\x13\x01A"}, {dirName(name(cn("A"))), true, "\xa4\x0e\x30\x0c\x31\x0a\x30\x08\x06\x03\x55\x04\x03\x13\x01A"},
		{dirName(name([]api.Attribute{attr("2.5.4.10", "B"), attr("2.5.4.3", "A")})), false, "\xa4\x18\x30\x16\x31\x14\x30\x08\x06\x03\x55\x04\x03\x13\x01A\x30\x08\x06\x03\x55\x04\x0a\x13\x01B"}, // in ascending order
	} {
		if b, err := gname.Encode(k.g, k.constraint); b != k.want || err != api.OK {
			t.Errorf("Encode(%s, %v) is %x, %d, want %x", show(k.g), k.constraint, b, err, k.want)
		}
		if err := checkEncode(t, k.g, k.constraint); err != api.OK {
			t.Errorf("Encode(%s, %v) has the error %d", show(k.g), k.constraint, err)
		}
	}
}

// TestEncodeAll: P9.2 and P9.6, all kinds, texts and names in all combinations.
func TestEncodeAll(t *testing.T) {
	valid := 0
	eachName(func(g api.GeneralName) {
		for _, constraint := range []bool{false, true} {
			if checkEncode(t, g, constraint) == api.OK {
				valid++
			}
		}
	})
	if valid < 100 {
		t.Errorf("only %d of them were valid", valid)
	}
}

// TestEncodeRandom: P9.2 and P9.6, random general names of all kinds, also with attributes in other orders.
func TestEncodeRandom(t *testing.T) {
	r := rand.New(rand.NewSource(2))
	for range 10000 {
		constraint := r.Intn(2) == 0
		g := randomName(r, constraint)
		if err := checkEncode(t, g, constraint); err != api.OK {
			t.Fatalf("Encode(%s, %v) has the error %d", show(g), constraint, err)
		}
		checkEncode(t, g, !constraint)
	}
}

// TestEncodeGreatest: P9.2 and P9.6, the name with the longest encoding.
func TestEncodeGreatest(t *testing.T) {
	n := api.Name{}
	for range api.MaxRDNs {
		var l []api.Attribute
		for i := range api.MaxAttributes {
			l = append(l, api.Attribute{Type: "2.2147483567.2147483647.2147483647.2147483647.2147483647.2147483647.2147483647.2147483647.2147483647.2147483647.214748364" + string(rune('4'+i)), Kind: api.TagIA5, Value: long(127)[:api.MaxValue]})
		}
		n.RDNs = append(n.RDNs, l)
	}
	for _, constraint := range []bool{false, true} {
		if err := checkEncode(t, dirName(n), constraint); err != api.OK {
			t.Errorf("the greatest name has the error %d", err)
		}
	}
}
