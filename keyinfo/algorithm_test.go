package keyinfo_test

import (
	"crypto/x509/pkix"
	"encoding/asn1"
	"math/rand"
	"strings"
	"testing"

	"certpath/api"
	"certpath/keyinfo"
	"certpath/oid"
	"certpath/tlv"
)

// modelAlgorithm is P14.1: the errors in their order, of which the first one that applies is returned.
func modelAlgorithm(e api.Element) api.Errno {
	if e.Tag != 0x30 {
		return api.ErrTag
	}
	l, listed := tlv.List(e.Content)
	if listed != api.OK {
		return listed
	}
	if len(l) < 1 {
		return api.ErrTruncated
	}
	if l[0].Tag != 6 {
		return api.ErrTag
	}
	if _, decoded := oid.Decode(l[0].Content); decoded != api.OK {
		return decoded
	}
	if e.Content != algorithm()[2:] {
		return api.ErrAlgorithm
	}
	return api.OK
}

// checkAlgorithm compares CheckAlgorithm with P14.1, and returns its error.
func checkAlgorithm(t *testing.T, e api.Element) api.Errno {
	t.Helper()
	err := keyinfo.CheckAlgorithm(e)
	if want := modelAlgorithm(e); err != want {
		t.Errorf("CheckAlgorithm(%#x, %.80x) is %d, want %d", e.Tag, e.Content, err, want)
	}
	return err
}

// TestAlgorithm: P14.1, the element against one that is put together here, one that is written out, and one of Go's library.
func TestAlgorithm(t *testing.T) {
	library, err := asn1.Marshal(pkix.AlgorithmIdentifier{Algorithm: asn1.ObjectIdentifier{1, 3, 6, 1, 4, 1, 58888, 1, 1}})
	if err != nil {
		t.Fatal(err)
	}
	for _, want := range []string{algorithm(), unhex(t, "30 0c 06 0a 2b 06 01 04 01 83 cc 08 01 01"), string(library), seq(idOf(api.OIDAlgorithm))} {
		if got := keyinfo.Algorithm(); got != want {
			t.Errorf("Algorithm is %x, want %x", got, want)
		}
	}
	if err := keyinfo.CheckAlgorithm(element(t, keyinfo.Algorithm())); err != api.OK {
		t.Errorf("CheckAlgorithm of Algorithm is %d", err)
	}
}

// badElements are elements that are not the algorithm, with their errors: contents alone, or two and more errors of which the first one counts.
func badElements() []struct {
	what, b string
	want    api.Errno
} {
	id, other, bad := idOf(api.OIDAlgorithm), idOf("1.3.6.1.4.1.58888.1.2"), "\x06\x00"
	return []struct {
		what, b string
		want    api.Errno
	}{
		{"a set", der(api.TagSet, id), api.ErrTag},
		{"an object identifier", id, api.ErrTag},
		{"a null", "\x05\x00", api.ErrTag},
		{"a context tag", der(api.TagExplicit, id), api.ErrTag},
		{"an octet string", der(api.TagOctets, id), api.ErrTag},
		{"a primitive element with the number of sequences", der(0x10, id), api.ErrTag},
		{"an application tag with the number of sequences", der(0x70, id), api.ErrTag},
		{"a set that cannot be divided", der(api.TagSet, "\x30"), api.ErrTag},
		{"an empty set", der(api.TagSet), api.ErrTag},
		{"a set with another object identifier", der(api.TagSet, other), api.ErrTag},
		{"a set with a bad object identifier", der(api.TagSet, bad), api.ErrTag},
		{"a set with two elements", der(api.TagSet, id, id), api.ErrTag},

		{"an object identifier that is cut off", seq(id[:11]), api.ErrTruncated},
		{"an identifier octet alone", seq("\x06"), api.ErrTruncated},
		{"a long tag", seq("\x1f\x00"), api.ErrTag},
		{"an indefinite length", seq("\x06\x80\x00\x00"), api.ErrLength},
		{"a length that is not minimal", seq("\x06\x81\x0a" + id[2:]), api.ErrLength},
		{"a length of four bytes", seq("\x06\x84\x00\x00\x00\x0a" + id[2:]), api.ErrLength},
		{"half a length", seq("\x06\x82\x01"), api.ErrTruncated},
		{"too great a length", seq("\x06\x83\x02\x00\x01"), api.ErrLength},
		{"a null behind it that is cut off", seq(id, "\x05"), api.ErrTruncated},
		{"a null behind it with a long length", seq(id, "\x05\x81\x00"), api.ErrLength},
		{"a long tag behind it", seq(id, "\x3f\x00"), api.ErrTag},
		{"a byte behind it", seq(id, "\x00"), api.ErrTruncated},
		{"no object identifier, and a second element with a bad length", seq("\x05\x00", "\x05\x80"), api.ErrLength},
		{"a bad object identifier, and a second element that is cut off", seq(bad, "\x05\x01"), api.ErrTruncated},
		{"another object identifier, and a second element that is cut off", seq(other, "\x05\x01"), api.ErrTruncated},
		{"another object identifier, and a second element with a long tag", seq(other, "\x5f\x00"), api.ErrTag},

		{"an empty sequence", seq(), api.ErrTruncated},

		{"a null first", seq("\x05\x00"), api.ErrTag},
		{"a null before it", seq("\x05\x00", id), api.ErrTag},
		{"an octet string first", seq(der(api.TagOctets, id[2:])), api.ErrTag},
		{"a sequence in it", seq(seq(id)), api.ErrTag},
		{"a context tag first", seq(der(api.TagContext, id[2:])), api.ErrTag},
		{"a constructed object identifier", seq(der(0x26, id[2:])), api.ErrTag},
		{"a relative object identifier", seq(der(0x0d, id[2:])), api.ErrTag},
		{"an empty octet string first", seq("\x04\x00"), api.ErrTag},
		{"another element before a bad object identifier", seq("\x04\x00", bad), api.ErrTag},
		{"another element before another object identifier", seq("\x04\x00", other), api.ErrTag},

		{"an empty object identifier", seq(bad), api.ErrOID},
		{"an object identifier that is cut off in its contents", seq("\x06\x06\x2b\x06\x01\x04\x01\x83"), api.ErrOID},
		{"an object identifier with a leading zero digit", seq("\x06\x0b\x2b\x06\x01\x04\x01\x80\x83\xcc\x08\x01\x01"), api.ErrOID},
		{"an object identifier with too great an arc", seq("\x06\x06\x2b\x88\x80\x80\x80\x00"), api.ErrOID},
		{"an object identifier with too many arcs", seq(der(api.TagOID, id[2:], "\x01\x01\x01\x01")), api.ErrOID},
		{"a bad object identifier, and a null behind it", seq(bad, "\x05\x00"), api.ErrOID},
		{"a bad object identifier, and a good one behind it", seq(bad, id), api.ErrOID},

		{"another object identifier", seq(other), api.ErrAlgorithm},
		{"an object identifier above it", seq(idOf("1.3.6.1.4.1.58888.1")), api.ErrAlgorithm},
		{"an object identifier under it", seq(idOf("1.3.6.1.4.1.58888.1.1.1")), api.ErrAlgorithm},
		{"the object identifier with a zero behind it", seq(idOf("1.3.6.1.4.1.58888.1.1.0")), api.ErrAlgorithm},
		{"a short object identifier", seq(idOf("0.0")), api.ErrAlgorithm},
		{"the greatest object identifier", seq(idOf("2.2147483567" + strings.Repeat(".2147483647", 10))), api.ErrAlgorithm},
		{"a null behind it", seq(id, "\x05\x00"), api.ErrAlgorithm},
		{"an empty sequence behind it", seq(id, "\x30\x00"), api.ErrAlgorithm},
		{"the object identifier twice", seq(id, id), api.ErrAlgorithm},
		{"a bad object identifier behind it", seq(id, bad), api.ErrAlgorithm},
		{"another one behind it", seq(id, other), api.ErrAlgorithm},
		{"another one before it", seq(other, id), api.ErrAlgorithm},
		{"another one, and a null behind it", seq(other, "\x05\x00"), api.ErrAlgorithm},
		{"many elements behind it", seq(id, strings.Repeat("\x05\x00", 60000)), api.ErrAlgorithm},
		{"a sequence behind it that cannot be divided", seq(id, seq("\x30")), api.ErrAlgorithm},
	}
}

// TestCheckAlgorithmErrors: P14.1, each error alone, and with others, of which the first one counts.
func TestCheckAlgorithmErrors(t *testing.T) {
	for _, k := range badElements() {
		if err := keyinfo.CheckAlgorithm(element(t, k.b)); err != k.want {
			t.Errorf("%s: CheckAlgorithm(%.80x) is %d, want %d", k.what, k.b, err, k.want)
		}
		checkAlgorithm(t, element(t, k.b))
	}
}

// TestCheckAlgorithmElements: P14.1 and R1, elements that no encoding has.
func TestCheckAlgorithmElements(t *testing.T) {
	for _, k := range []struct {
		what string
		e    api.Element
		want api.Errno
	}{
		{"the zero element", api.Element{}, api.ErrTag},
		{"a sequence with no Raw", api.Element{Tag: api.TagSequence, Content: algorithm()[2:]}, api.OK},
		{"a sequence with nothing else", api.Element{Tag: api.TagSequence}, api.ErrTruncated},
		{"a sequence with the Raw of the algorithm alone", api.Element{Tag: api.TagSequence, Raw: algorithm()}, api.ErrTruncated},
		{"a negative identifier octet", api.Element{Tag: -1, Content: algorithm()[2:], Raw: algorithm()}, api.ErrTag},
		{"an identifier octet with the same last byte", api.Element{Tag: 0x130, Content: algorithm()[2:], Raw: algorithm()}, api.ErrTag},
		{"a greatest identifier octet", api.Element{Tag: 1<<63 - 1, Content: algorithm()[2:], Raw: algorithm()}, api.ErrTag},
		{"contents that are too long for an element", api.Element{Tag: api.TagSequence, Content: idOf(api.OIDAlgorithm) + strings.Repeat("\x05\x00", api.MaxBytes)}, api.ErrAlgorithm},
	} {
		if err := keyinfo.CheckAlgorithm(k.e); err != k.want {
			t.Errorf("%s: CheckAlgorithm is %d, want %d", k.what, err, k.want)
		}
	}
}

// TestCheckAlgorithmTags: P14.1, every identifier octet in both places.
func TestCheckAlgorithmTags(t *testing.T) {
	contents := idOf(api.OIDAlgorithm)
	for tag := -300; tag < 600; tag++ {
		err := checkAlgorithm(t, api.Element{Tag: tag, Content: contents, Raw: algorithm()})
		if (err == api.OK) != (tag == 0x30) || err != api.OK && err != api.ErrTag {
			t.Errorf("the identifier octet %#x of the sequence has the error %d", tag, err)
		}
	}
	for tag := range 256 {
		err := checkAlgorithm(t, api.Element{Tag: api.TagSequence, Content: replace(contents, 0, byte(tag))})
		if (err == api.OK) != (tag == 6) || err != api.OK && err != api.ErrTag {
			t.Errorf("the identifier octet %#x of the object identifier has the error %d", tag, err)
		}
	}
}

// TestCheckAlgorithmIDs: P14.1, each arc is another one, is missing, or stands twice.
func TestCheckAlgorithmIDs(t *testing.T) {
	arcs := strings.Split(api.OIDAlgorithm, ".")
	check := func(l ...string) {
		t.Helper()
		id := strings.Join(l, ".")
		if !oid.Valid(id) || id == api.OIDAlgorithm {
			return
		}
		if err := checkAlgorithm(t, element(t, seq(idOf(id)))); err != api.ErrAlgorithm {
			t.Errorf("the algorithm %s has the error %d", id, err)
		}
	}
	splice := func(i, end int, middle ...string) []string {
		return append(append(append([]string{}, arcs[:i]...), middle...), arcs[end:]...)
	}
	for i, arc := range arcs {
		check(splice(i, i+1)...)
		check(splice(i, i+1, arc, arc)...)
		for _, other := range []string{"0", "1", "2", "3", "39", "127", "128", "58887", "58889", "2147483647"} {
			check(splice(i, i+1, other)...)
			check(splice(i, i, other)...)
		}
	}
	for n := 2; n < len(arcs); n++ {
		check(arcs[:n]...)
		check(arcs[n-1:]...)
	}
}

// TestCheckAlgorithmChanged: P14.1, every byte of the element is another one, is missing, or is added: nothing but the algorithm is accepted.
func TestCheckAlgorithmChanged(t *testing.T) {
	b := algorithm()[2:]
	seen := map[api.Errno]int{}
	check := func(contents string) {
		t.Helper()
		err := checkAlgorithm(t, api.Element{Tag: api.TagSequence, Content: contents})
		if (err == api.OK) != (contents == b) {
			t.Errorf("contents %x: the error is %d", contents, err)
		}
		seen[err]++
	}
	for i := range len(b) + 1 {
		check(b[:i])
		for c := range 256 {
			s := string([]byte{byte(c)})
			check(b[:i] + s + b[i:])
			if i < len(b) {
				check(b[:i] + s + b[i+1:])
			}
		}
		if i < len(b) {
			check(b[:i] + b[i+1:])
			check(b[i:])
		}
	}
	seenEnough(t, seen, api.OK, api.ErrTruncated, api.ErrTag, api.ErrLength, api.ErrOID, api.ErrAlgorithm)
}

// seenEnough checks that a test has come upon each of these errors several times.
func seenEnough(t *testing.T, seen map[api.Errno]int, want ...api.Errno) {
	t.Helper()
	for _, err := range want {
		if seen[err] < 5 {
			t.Errorf("only %d times the error %d", seen[err], err)
		}
	}
}

// randomAlgorithm returns an element of the form of an algorithm, parts of which are missing, are there twice, or are others.
func randomAlgorithm(r *rand.Rand) string {
	pick := func(usual string, others ...string) string {
		if r.Intn(8) > 0 {
			return usual
		}
		return others[r.Intn(len(others))]
	}
	id, other := idOf(api.OIDAlgorithm), idOf("1.3.6.1.4.1.58888.1.2")
	first := pick(id, "", other, other, "\x06\x00", "\x06\x01\x80", "\x05\x00", seq(id), "\x06", "\x06\x80")
	second := pick("", "\x05\x00", "\x05\x00", id, "\x05", "\x1f", "\x05\x80", seq())
	return pick(seq(first, second), der(api.TagSet, first, second), der(api.TagExplicit, first), second+first)
}

// TestCheckAlgorithmRandom: P14.1, elements with one error, two and more.
func TestCheckAlgorithmRandom(t *testing.T) {
	r := rand.New(rand.NewSource(4))
	seen := map[api.Errno]int{}
	for range 20000 {
		if e, err := tlv.One(randomAlgorithm(r)); err == api.OK {
			seen[checkAlgorithm(t, e)]++
		}
	}
	seenEnough(t, seen, api.OK, api.ErrTruncated, api.ErrTag, api.ErrLength, api.ErrOID, api.ErrAlgorithm)
}
