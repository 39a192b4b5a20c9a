package dname_test

import (
	"math/rand"
	"slices"
	"strings"
	"testing"

	"certpath/api"
	"certpath/dname"
	"certpath/oid"
	"certpath/tlv"
)

// modelDecode is P7.3, with rule R9: require leaves it with the first error.
func modelDecode(b string) (n api.Name, err api.Errno) {
	require := func(err api.Errno, holds bool) {
		if !holds {
			panic(err)
		}
	}
	defer func() {
		if failed, ok := recover().(api.Errno); ok {
			n, err = api.Name{}, failed
		}
	}()
	parts := func(contents string) []api.Element {
		l, err := tlv.List(contents)
		require(err, err == api.OK)
		return l
	}
	e, err := tlv.One(b)
	require(err, err == api.OK)
	require(api.ErrTag, e.Tag == 0x30)
	for _, set := range parts(e.Content) {
		require(api.ErrTag, set.Tag == 0x31)
		l := parts(set.Content)
		for i := 1; i < len(l); i++ {
			require(api.ErrOrder, l[i-1].Raw <= l[i].Raw)
		}
		var r []api.Attribute
		for _, a := range l {
			require(api.ErrTag, a.Tag == 0x30)
			l := parts(a.Content)
			require(api.ErrTruncated, len(l) > 0)
			require(api.ErrTag, l[0].Tag == 6)
			id, err := oid.Decode(l[0].Content)
			require(err, err == api.OK)
			require(api.ErrTruncated, len(l) > 1)
			require(api.ErrTag, l[1].Tag == 12 || l[1].Tag == 19 || l[1].Tag == 22)
			require(api.ErrTrailing, len(l) == 2)
			r = append(r, api.Attribute{Type: id, Kind: l[1].Tag, Value: l[1].Content})
		}
		n.RDNs = append(n.RDNs, r)
	}
	err = modelCheck(n)
	require(err, err == api.OK)
	return n, api.OK
}

// checkDecode compares Decode with P7.3 and P7.8, and returns its error.
func checkDecode(t *testing.T, b string) api.Errno {
	t.Helper()
	want, wantErr := modelDecode(b)
	n, err := dname.Decode(b)
	if !same(n, want) || err != wantErr {
		t.Fatalf("Decode(% x) is %+v, %d, want %+v, %d", b, n, err, want, wantErr)
	}
	if err == api.OK && encode(t, n) != b {
		t.Fatalf("Decode accepts % x, but Encode writes % x", b, encode(t, n))
	}
	return err
}

// Parts of encodings.
const (
	idCN = "\x06\x03\x55\x04\x03"
	idC  = "\x06\x03\x55\x04\x06"
	strA = "\x13\x01a"
	strB = "\x13\x01b"
)

func seqOf(l ...string) string { return der(api.TagSequence, l...) }
func setOf(l ...string) string { return der(api.TagSet, l...) }

// wholes are encodings to which the tests of errors make changes.
func wholes(t *testing.T) []string {
	return []string{
		encode(t, api.Name{}), encode(t, name(cn("a"))), encode(t, name(cn("Web Server"), rel(attr(api.OIDOrganization, "Example")))),
		encode(t, name(rel(attr("2.5.4.3", "a"), utf8("2.5.4.6", "é"), ia5("1.2.840.113549.1.9.1", "a@b")), cn("b"))),
		encode(t, name(rel(attr("2.5.4.3", "a"), attr("2.5.4.6", "a"), attr("2.5.4.7", "a"), attr("2.5.4.10", "a")))),
		encode(t, repeat(cn("ab"), api.MaxRDNs)),
	}
}

// TestDecodeErrors: P7.3, each error in each place, and which one comes first if there are several.
func TestDecodeErrors(t *testing.T) {
	good, second := seqOf(idCN, strA), seqOf(idC, strB)
	nine := strings.Repeat(setOf(good), 9)
	for _, c := range []struct {
		what, b string
		want    api.Errno
	}{
		{"nothing", "", api.ErrTruncated},
		{"no length", "\x30", api.ErrTruncated},
		{"a long tag", "\x3f\x00", api.ErrTag},
		{"an indefinite length", "\x30\x80\x00\x00", api.ErrLength},
		{"a length that is not minimal", "\x30\x81\x0c" + setOf(good), api.ErrLength},
		{"bytes behind it", seqOf(setOf(good)) + "\x00", api.ErrTrailing},
		{"a name behind it", seqOf(setOf(good)) + seqOf(), api.ErrTrailing},
		{"bytes behind a set", setOf(good) + "\x00", api.ErrTrailing},
		{"a set", setOf(good), api.ErrTag},
		{"an empty set", setOf(), api.ErrTag},
		{"a set with nothing that can be divided", setOf("\x30"), api.ErrTag},
		{"an octet string", der(api.TagOctets, setOf(good)), api.ErrTag},
		{"a context tag", der(api.TagExplicit, setOf(good)), api.ErrTag},

		{"a relative name is cut off", seqOf("\x31"), api.ErrTruncated},
		{"the second relative name is cut off", seqOf(setOf(good), "\x31\x0a"+good[:5]), api.ErrTruncated},
		{"a wrong tag, and the second relative name is cut off", seqOf(good, "\x31"), api.ErrTruncated},
		{"a wrong order, and the second relative name has a long length", seqOf(setOf(second, good), "\x31\x84"), api.ErrLength},
		{"a wrong order, and the second relative name has a long tag", seqOf(setOf(second, good), "\x1f"), api.ErrTag},
		{"a sequence instead of a set", seqOf(seqOf(good)), api.ErrTag},
		{"an attribute instead of a set", seqOf(good), api.ErrTag},
		{"an octet string instead of a set", seqOf(der(api.TagOctets, good)), api.ErrTag},
		{"a wrong tag with contents that cannot be divided", seqOf(seqOf("\x30")), api.ErrTag},
		{"the second one is no set", seqOf(setOf(good), seqOf(good)), api.ErrTag},
		{"a wrong tag, then a wrong order", seqOf(good, setOf(second, good)), api.ErrTag},
		{"a wrong order, then a wrong tag", seqOf(setOf(second, good), good), api.ErrOrder},

		{"an attribute is cut off", seqOf(setOf(good[:8])), api.ErrTruncated},
		{"a wrong order, and an attribute is cut off", seqOf(setOf(second, good, "\x30")), api.ErrTruncated},
		{"a wrong order, and an attribute has a bad length", seqOf(setOf(second, good, "\x30\x80")), api.ErrLength},
		{"a wrong attribute, and the next one is cut off", seqOf(setOf(seqOf(), "\x30\x01")), api.ErrTruncated},
		{"descending", seqOf(setOf(second, good)), api.ErrOrder},
		{"descending, in the second relative name", seqOf(setOf(good), setOf(second, good)), api.ErrOrder},
		{"descending at the end", seqOf(setOf(good, second, good)), api.ErrOrder},
		{"descending at the beginning", seqOf(setOf(second, good, second)), api.ErrOrder},
		{"descending by length", seqOf(setOf(seqOf(idCN, "\x13\x02ab"), second)), api.ErrOrder},
		{"descending by values alone", seqOf(setOf(seqOf(idCN, strB), good)), api.ErrOrder},
		{"descending by kinds alone", seqOf(setOf(seqOf(idCN, "\x16\x01a"), good)), api.ErrOrder},
		{"descending, with wrong tags", seqOf(setOf("\x05\x00", "\x04\x00")), api.ErrOrder},
		{"descending, with bad attributes", seqOf(setOf(seqOf(idCN), seqOf())), api.ErrOrder},
		{"descending, with more than MaxAttributes", seqOf(setOf(second, second, second, second, good)), api.ErrOrder},

		{"a set instead of an attribute", seqOf(setOf(setOf(idCN, strA))), api.ErrTag},
		{"an object identifier instead of an attribute", seqOf(setOf(idCN)), api.ErrTag},
		{"a wrong tag with contents that cannot be divided, in a set", seqOf(setOf(setOf("\x30"))), api.ErrTag},
		{"an object identifier and a string instead of an attribute", seqOf(setOf(idCN, strA)), api.ErrTag},
		{"an attribute, then a set", seqOf(setOf(good, setOf(idCN, strA))), api.ErrTag},
		{"a bad attribute, then a set", seqOf(setOf(seqOf(), setOf())), api.ErrTruncated},
		{"an octet string, then a bad attribute", seqOf(setOf("\x04\x00", seqOf())), api.ErrTag},

		{"the string is cut off", seqOf(setOf(seqOf(idCN, "\x13\x02a"))), api.ErrTruncated},
		{"the object identifier is bad, and the string is cut off", seqOf(setOf(seqOf("\x06\x00", "\x13"))), api.ErrTruncated},
		{"the object identifier has a wrong tag, and the string a bad length", seqOf(setOf(seqOf("\x04\x00", "\x13\x80"))), api.ErrLength},
		{"an empty attribute", seqOf(setOf(seqOf())), api.ErrTruncated},
		{"only an object identifier", seqOf(setOf(seqOf(idCN))), api.ErrTruncated},
		{"only a bad object identifier", seqOf(setOf(seqOf("\x06\x00"))), api.ErrOID},
		{"only a string", seqOf(setOf(seqOf(strA))), api.ErrTag},
		{"a string first", seqOf(setOf(seqOf(strA, idCN))), api.ErrTag},
		{"two object identifiers", seqOf(setOf(seqOf(idCN, idCN))), api.ErrTag},
		{"two object identifiers and a string", seqOf(setOf(seqOf(idCN, idCN, strA))), api.ErrTag},
		{"an object identifier behind the string", seqOf(setOf(seqOf(idCN, strA, idCN))), api.ErrTrailing},
		{"two strings", seqOf(setOf(seqOf(idCN, strA, strA))), api.ErrTrailing},
		{"a null behind the string", seqOf(setOf(seqOf(idCN, strA, "\x05\x00"))), api.ErrTrailing},
		{"a bad object identifier and a wrong kind", seqOf(setOf(seqOf("\x06\x00", "\x05\x00"))), api.ErrOID},
		{"a wrong kind, and more behind it", seqOf(setOf(seqOf(idCN, "\x05\x00", strA))), api.ErrTag},
		{"a bad value, and more behind it", seqOf(setOf(seqOf(idCN, "\x13\x00", strA))), api.ErrTrailing},
		{"a bad attribute behind a good one", seqOf(setOf(good, seqOf(idC, "\x14\x01a"))), api.ErrTag},
		{"a wrong kind, then more behind a string", seqOf(setOf(seqOf(idCN, "\x05\x01a"), seqOf(idCN, strA, strA))), api.ErrTag},
		{"a bad attribute in the second relative name", seqOf(setOf(good), setOf(seqOf(idC))), api.ErrTruncated},

		{"an empty relative name", seqOf(setOf()), api.ErrName},
		{"an empty relative name behind another one", seqOf(setOf(good), setOf()), api.ErrName},
		{"an empty relative name, then a bad one", seqOf(setOf(), setOf(seqOf())), api.ErrTruncated},
		{"an empty relative name, then no set", seqOf(setOf(), seqOf()), api.ErrTag},
		{"a duplicate, then no set", seqOf(setOf(good, good), seqOf()), api.ErrTag},
		{"a bad value, then a wrong kind", seqOf(setOf(seqOf(idCN, "\x13\x01*"), seqOf(idC, "\x14\x01a"))), api.ErrTag},
		{"more than MaxRDNs", seqOf(nine), api.ErrLimit},
		{"many relative names", der(api.TagSequence, strings.Repeat(setOf(good), 2000)), api.ErrLimit},
		{"more than MaxRDNs, all empty", seqOf(strings.Repeat(setOf(), 9)), api.ErrLimit},
		{"more than MaxRDNs, and the last one is no set", seqOf(nine, seqOf()), api.ErrTag},
		{"more than MaxRDNs, and the last one descends", seqOf(nine, setOf(second, good)), api.ErrOrder},
		{"more than MaxAttributes", seqOf(setOf(good, second, second, second, second)), api.ErrLimit},
		{"more than MaxAttributes, and the last one is bad", seqOf(setOf(good, second, second, second, seqOf(idC, "\x14\x01a"))), api.ErrTag},
		{"equal attributes", seqOf(setOf(good, good)), api.ErrDuplicate},
		{"equal types", seqOf(setOf(good, seqOf(idCN, strB))), api.ErrDuplicate},
		{"equal types, another kind", seqOf(setOf(good, seqOf(idCN, "\x16\x01a"))), api.ErrDuplicate},
		{"an empty value", seqOf(setOf(seqOf(idCN, "\x13\x00"))), api.ErrString},
		{"a bad value, TagPrintable", seqOf(setOf(seqOf(idCN, "\x13\x01*"))), api.ErrString},
		{"a bad value, TagUTF8", seqOf(setOf(seqOf(idCN, "\x0c\x01\xff"))), api.ErrString},
		{"a bad value, TagIA5", seqOf(setOf(seqOf(idCN, "\x16\x01\x1f"))), api.ErrString},
		{"a bad and long value", seqOf(setOf(seqOf(idCN, der(api.TagPrintable, strings.Repeat("*", 65))))), api.ErrString},
		{"a long value", seqOf(setOf(seqOf(idCN, der(api.TagPrintable, strings.Repeat("a", 65))))), api.ErrLimit},
		{"a very long value", seqOf(setOf(seqOf(idCN, der(api.TagPrintable, strings.Repeat("a", 60000))))), api.ErrLimit},
	} {
		if n, err := dname.Decode(c.b); err != c.want || !none(n) {
			t.Errorf("%s: Decode(%.40x) is %+v, %d, want error %d", c.what, c.b, n, err, c.want)
		}
		checkDecode(t, c.b)
	}
}

// TestDecodeOIDs: P7.3, object identifiers that oid.Decode refuses.
func TestDecodeOIDs(t *testing.T) {
	for _, c := range []string{
		"", "\x80", "\x55\x80", "\x55\x80\x03", "\x55\x84", "\x80\x55\x04", "\x55\x04\x83", "\x2a\x88\x80\x80\x80\x00", "\x88\x80\x80\x80\x50", "\x2a" + strings.Repeat("\x01", 11), strings.Repeat("\xff", 50),
	} {
		b := seqOf(setOf(seqOf(der(api.TagOID, c), strA)))
		if n, err := dname.Decode(b); err != api.ErrOID || !none(n) {
			t.Errorf("Decode(% x) is %+v, %d, want ErrOID", b, n, err)
		}
	}
}

// TestDecodeTags: P7.3, every identifier octet in every place.
func TestDecodeTags(t *testing.T) {
	for tag := range 256 {
		if tag%32 == 31 {
			continue
		}
		for what, c := range map[string]struct {
			b    string
			want bool
		}{
			"the name":              {der(tag, setOf(seqOf(idCN, strA))), tag == api.TagSequence},
			"a relative name":       {seqOf(der(tag, seqOf(idCN, strA))), tag == api.TagSet},
			"the last one":          {seqOf(setOf(seqOf(idCN, strA)), der(tag, seqOf(idCN, strA))), tag == api.TagSet},
			"an attribute":          {seqOf(setOf(der(tag, idCN, strA))), tag == api.TagSequence},
			"an object identifier":  {seqOf(setOf(seqOf(der(tag, "\x55\x04\x03"), strA))), tag == api.TagOID},
			"a string":              {seqOf(setOf(seqOf(idCN, der(tag, "a")))), tag == api.TagUTF8 || tag == api.TagPrintable || tag == api.TagIA5},
			"a string without text": {seqOf(setOf(seqOf(idCN, der(tag)))), false},
		} {
			err := checkDecode(t, c.b)
			if c.want != (err == api.OK) || err != api.OK && err != api.ErrTag && err != api.ErrString {
				t.Errorf("%s with the identifier octet %#x: Decode returns %d", what, tag, err)
			}
		}
	}
}

// TestDecodeCutOff: P7.3, every encoding cut off anywhere, and followed by something.
func TestDecodeCutOff(t *testing.T) {
	for _, b := range wholes(t) {
		for i := range len(b) {
			if n, err := dname.Decode(b[:i]); err != api.ErrTruncated || !none(n) {
				t.Errorf("Decode(% x) is %+v, %d, want ErrTruncated", b[:i], n, err)
			}
		}
		for _, s := range []string{"\x00", "\x30", b, "\x05\x00", "\x1f", strings.Repeat("a", 1000)} {
			if n, err := dname.Decode(b + s); err != api.ErrTrailing || !none(n) {
				t.Errorf("Decode(% x) is %+v, %d, want ErrTrailing", b+s, n, err)
			}
		}
	}
}

// TestDecodeChanged: P7.3 and P7.8, every byte of an encoding is another one, is missing, or is added.
func TestDecodeChanged(t *testing.T) {
	seen := map[api.Errno]int{}
	for _, b := range wholes(t) {
		for i := range len(b) + 1 {
			for c := range 256 {
				s := string([]byte{byte(c)})
				seen[checkDecode(t, b[:i]+s+b[i:])]++
				if i < len(b) {
					seen[checkDecode(t, b[:i]+s+b[i+1:])]++
				}
			}
			if i < len(b) {
				seen[checkDecode(t, b[:i]+b[i+1:])]++
			}
		}
	}
	seenEnough(t, seen, api.OK, api.ErrTruncated, api.ErrTrailing, api.ErrTag, api.ErrLength, api.ErrOrder, api.ErrOID, api.ErrString)
}

// randomEncoding returns an encoding of the form of a name, parts of which are missing, are there twice, or are others.
func randomEncoding(r *rand.Rand) string {
	pick := func(usual string, others ...string) string {
		if r.Intn(30) > 0 {
			return usual
		}
		return others[r.Intn(len(others))]
	}
	attribute := func() string {
		id := pick([]string{idCN, idC, "\x06\x01\x2a"}[r.Intn(3)], "\x06\x01\x80", "\x06\x00", "", strA)
		value := pick(strA, strB, "\x0c\x02\xc3\xa9", "\x16\x01*", "\x13\x01*", "\x13\x00", "\x14\x01a", "", strA+strA, der(api.TagUTF8, strings.Repeat("é", 33)))
		return pick(seqOf(id, value), setOf(id, value), der(api.TagExplicit, id, value))
	}
	sets := ""
	for range r.Intn(4) {
		var l []string
		for range []int{0, 1, 1, 1, 1, 2, 2, 3, 4, 5}[r.Intn(10)] {
			l = append(l, attribute())
		}
		if r.Intn(8) > 0 {
			slices.Sort(l)
		}
		set := setOf(l...)
		sets += pick(set, seqOf(l...), set+set, "\x31", setOf(append(l, "\x30")...))
	}
	return pick(seqOf(sets), setOf(sets), seqOf(sets, sets, sets), seqOf(strings.Repeat(sets, 9)), seqOf(sets)+"\x00")
}

// TestDecodeRandom: P7.3 and P7.8, random encodings of the form of names, some of whose bytes are changed.
func TestDecodeRandom(t *testing.T) {
	r := rand.New(rand.NewSource(3))
	seen := map[api.Errno]int{}
	for range 50000 {
		b := randomEncoding(r)
		seen[checkDecode(t, b)]++
		changed := []byte(b)
		for range r.Intn(3) {
			changed[r.Intn(len(changed))] = byte(r.Intn(256))
		}
		seen[checkDecode(t, string(changed))]++
	}
	seenEnough(t, seen, api.OK, api.ErrTruncated, api.ErrTrailing, api.ErrTag, api.ErrLength, api.ErrOrder, api.ErrOID, api.ErrName, api.ErrDuplicate, api.ErrString, api.ErrLimit)
}

// TestDecodeNew: R3, results of Decode share no memory with later ones, and the relative names of one share none with each other.
func TestDecodeNew(t *testing.T) {
	for _, b := range wholes(t) {
		first, _ := dname.Decode(b)
		before := clone(first)
		second, _ := dname.Decode(b)
		overwrite(second)
		if !same(first, before) {
			t.Errorf("Decode(% x): a result has become %+v because another one was changed", b, first)
		}
		if third, _ := dname.Decode(b); !same(third, before) {
			t.Errorf("Decode(% x) is %+v after a result was changed", b, third)
		}
		checkApart(t, first)
	}
}

// overwrite changes all attributes of a name.
func overwrite(n api.Name) {
	for i, r := range n.RDNs {
		for k := range r {
			r[k] = attr("", "overwritten")
		}
		n.RDNs[i] = append(r, attr("", "added"))
	}
}

// checkApart checks that what is written into a relative name, or behind it, changes no other one.
func checkApart(t *testing.T, n api.Name) {
	t.Helper()
	want := clone(n)
	for i, r := range n.RDNs {
		extended := append(r, attr("", "added"), attr("", "added"))
		for k := range extended {
			extended[k] = attr("", "overwritten")
		}
		n.RDNs[i] = slices.Clone(want.RDNs[i])
		if !same(n, want) {
			t.Errorf("the relative name %d of %+v shares memory with another one", i, want)
		}
	}
}
