package gname_test

import (
	"math"
	"math/rand"
	"strings"
	"testing"

	"certpath/api"
	"certpath/dname"
	"certpath/gname"
	"certpath/tlv"
)

// modelDecode is P9.2 for Decode.
func modelDecode(e api.Element, constraint bool) (api.GeneralName, api.Errno) {
	var g api.GeneralName
	for k, octet := range octets {
		if octet == e.Tag {
			g.Kind = k
		}
	}
	if g.Kind == 0 {
		return g, api.ErrTag
	}
	err := api.OK
	if g.Kind == kindDirectory {
		g.Name, err = dname.Decode(e.Content)
	} else {
		g.Text = e.Content
	}
	if err == api.OK {
		err = modelCheck(g, constraint)
	}
	if err != api.OK {
		return api.GeneralName{}, err
	}
	return g, api.OK
}

// checkDecode compares Decode with P9.2, and Encode of what it returns with the element; it returns the error of Decode.
func checkDecode(t *testing.T, e api.Element, constraint bool) api.Errno {
	t.Helper()
	want, wantErr := modelDecode(e, constraint)
	g, err := gname.Decode(e, constraint)
	if !identical(g, want) || err != wantErr {
		t.Fatalf("Decode(%d %.200x, %v) is %s, %d, want %s, %d", e.Tag, e.Content, constraint, show(g), err, show(want), wantErr)
	}
	if err != api.OK {
		return err
	}
	if b, err := gname.Encode(g, constraint); b != e.Raw || err != api.OK {
		t.Fatalf("Decode accepts %x, but Encode writes %x, %d", e.Raw, b, err)
	}
	return api.OK
}

// element returns the element with this identifier octet and these contents, without regard to what tlv reads.
func element(tag int, contents string) api.Element {
	return api.Element{Tag: tag, Content: contents, Raw: der(tag, contents)}
}

// contentsOfAll are contents of elements of all kinds: texts, names, and what is no name.
func contentsOfAll() []string {
	l := append([]string{}, texts...)
	for _, n := range good {
		b, _ := dname.Encode(n)
		l = append(l, b, b+"\x00", b[1:], b[:len(b)-1], der(0x31, b), der(0x30, b), der(0xa4, b), b+b)
	}
	return append(l, nameErrors()...)
}

// nameErrors are contents that dname.Decode refuses.
func nameErrors() []string {
	a, b := "\x30\x08\x06\x03\x55\x04\x03\x13\x01A", "\x30\x08\x06\x03\x55\x04\x0a\x13\x01B"
	return []string{
		"", "\x30", "\x1f\x00", "\x30\x80", "\x30\x81\x00", "\x30\x00\x00", "\x31\x00", "\x30\x01\x31", "\x30\x02\x30\x00", "\x30\x02\x31\x00", "\x30\x04\x31\x02\x30\x00", "\x30\x06\x31\x04\x30\x02\x06\x00",
		der(0x30, der(0x31, b+a)), der(0x30, der(0x31, a+a)), der(0x30, der(0x31, a[:9]+"*")), der(0x30, strings.Repeat(der(0x31, a), 9)), der(0x30, der(0x31, a+a+a+a+a)), der(0x30, der(0x31, "\x30\x0a\x06\x03\x55\x04\x03\x13\x01A\x05\x00")),
	}
}

// TestDecodeKnown: P9.2, elements of each kind as names, and as constraints.
func TestDecodeKnown(t *testing.T) {
	for _, k := range []struct {
		tag        int
		contents   string
		g          api.GeneralName
		name, base api.Errno
	}{
		{0x82, "a.b", dnsName("a.b"), api.OK, api.OK}, {0x82, "*.a.b", dnsName("*.a.b"), api.OK, api.ErrName}, {0x82, "", dnsName(""), api.ErrName, api.OK}, {0x82, ".a.b", dnsName(".a.b"), api.ErrName, api.ErrName}, {0x82, "a@b", dnsName(""), api.ErrName, api.ErrName}, {0x82, long(128), dnsName(long(128)), api.OK, api.OK}, {0x82, long(129), dnsName(""), api.ErrName, api.ErrName},
		{0x81, "Ann@B", mailName("Ann@B"), api.OK, api.OK}, {0x81, "b", mailName("b"), api.ErrName, api.OK}, {0x81, ".b", mailName(".b"), api.ErrName, api.OK}, {0x81, "", mailName(""), api.ErrName, api.ErrName}, {0x81, "*.a.b", mailName(""), api.ErrName, api.ErrName},
		{0x87, home, ipName(home), api.OK, api.ErrName}, {0x87, six, ipName(six), api.OK, api.ErrName}, {0x87, ten, ipName(ten), api.ErrName, api.OK}, {0x87, sixth, ipName(sixth), api.ErrName, api.OK}, {0x87, "", ipName(""), api.ErrName, api.ErrName}, {0x87, zeros(5), ipName(""), api.ErrName, api.ErrName},
		{0xa4, "\x30\x00", dirName(api.Name{}), api.OK, api.OK}, {0xa4, "\x30\x0c\x31\x0a\x30\x08\x06\x03\x55\x04\x03\x13\x01A", dirName(name(cn("A"))), api.OK, api.OK}, {0xa4, "", api.GeneralName{}, api.ErrTruncated, api.ErrTruncated}, {0xa4, "a.b", api.GeneralName{}, api.ErrTruncated, api.ErrTruncated},
	} {
		for i, want := range []api.Errno{k.name, k.base} {
			g, err := gname.Decode(element(k.tag, k.contents), i == 1)
			if err != want || err == api.OK && !identical(g, k.g) || err != api.OK && !none(g) {
				t.Errorf("Decode(%x %x, %v) is %s, %d, want %s, %d", k.tag, k.contents, i == 1, show(g), err, show(k.g), want)
			}
			checkDecode(t, element(k.tag, k.contents), i == 1)
		}
	}
}

// TestDecodeTags: P9.2, every identifier octet with contents of each kind, and numbers that are no octets. Its error comes before those of the contents.
func TestDecodeTags(t *testing.T) {
	tags := []int{-1, -0x81, 0x181, 0x182, 0x1a4, 0x187, 1<<32 | 0x82, math.MinInt, math.MaxInt, math.MinInt | 0x82}
	for tag := range 256 {
		tags = append(tags, tag)
	}
	for _, tag := range tags {
		four := tag == 0x81 || tag == 0x82 || tag == 0xa4 || tag == 0x87
		for _, contents := range []string{"a.b", "a@b", "abcd", ten, "\x30\x00", "", "\x30", "\x31\x00", der(0x30, der(0x31))} {
			for _, constraint := range []bool{false, true} {
				g, err := gname.Decode(element(tag, contents), constraint)
				if !four && (err != api.ErrTag || !none(g)) {
					t.Errorf("Decode(%x %x) is %s, %d", tag, contents, show(g), err)
				}
				checkDecode(t, element(tag, contents), constraint)
			}
		}
		if _, err := gname.Decode(element(tag, "abcd"), false); (err == api.OK) != (four && tag != 0x81 && tag != 0xa4) { // a DNS name and an address
			t.Errorf("Decode(%x) of four letters has the error %d", tag, err)
		}
	}
	if g, err := gname.Decode(api.Element{}, true); err != api.ErrTag || !none(g) {
		t.Errorf("Decode of no element is %s, %d", show(g), err)
	}
}

// TestDecodeNames: P9.2, contents of a directory name with each error of dname.Decode.
func TestDecodeNames(t *testing.T) {
	seen := map[api.Errno]bool{}
	for _, b := range nameErrors() {
		_, want := dname.Decode(b)
		for _, constraint := range []bool{false, true} {
			if g, err := gname.Decode(element(0xa4, b), constraint); want == api.OK || err != want || !none(g) {
				t.Errorf("Decode(a4 %x) is %s, %d, want error %d", b, show(g), err, want)
			}
		}
		seen[want] = true
	}
	for _, err := range []api.Errno{api.ErrTruncated, api.ErrTrailing, api.ErrTag, api.ErrLength, api.ErrName, api.ErrOrder, api.ErrOID, api.ErrString, api.ErrDuplicate, api.ErrLimit} {
		if !seen[err] {
			t.Errorf("no contents had the error %d", err)
		}
	}
}

// TestDecodeAll: P9.2, elements of all kinds with contents of all kinds, and of others, also cut off and with bytes that are changed.
func TestDecodeAll(t *testing.T) {
	seen := map[api.Errno]int{}
	for _, tag := range []int{0x80, 0x81, 0x82, 0x83, 0x84, 0x85, 0x86, 0x87, 0xa1, 0xa2, 0xa4, 0xa7, 0x30} {
		for _, contents := range contentsOfAll() {
			for _, constraint := range []bool{false, true} {
				seen[checkDecode(t, element(tag, contents), constraint)]++
				if len(contents) > 40 {
					continue
				}
				for i := range len(contents) {
					checkDecode(t, element(tag, contents[:i]), constraint)
					for _, c := range []byte{1, 2, 16, 32, 128} {
						changed := []byte(contents)
						changed[i] ^= c
						checkDecode(t, element(tag, string(changed)), constraint)
					}
				}
			}
		}
	}
	if seen[api.OK] < 50 {
		t.Errorf("only %d of them were valid", seen[api.OK])
	}
}

// TestDecodeRandom: P9.2 and P9.6, what Encode writes, with one byte changed, as far as it is an element.
func TestDecodeRandom(t *testing.T) {
	r := rand.New(rand.NewSource(3))
	seen := map[api.Errno]int{}
	for range 20000 {
		constraint := r.Intn(2) == 0
		b, err := gname.Encode(randomName(r, constraint), constraint)
		if err != api.OK {
			t.Fatal(err)
		}
		changed := []byte(b)
		if r.Intn(4) > 0 {
			changed[r.Intn(len(b))] ^= 1 << r.Intn(8)
		}
		e, err := tlv.One(string(changed))
		if err == api.OK {
			seen[checkDecode(t, e, constraint)]++
			checkDecode(t, e, !constraint)
		}
	}
	for _, err := range []api.Errno{api.OK, api.ErrTag, api.ErrName} {
		if seen[err] < 100 {
			t.Errorf("only %d elements with the error %d", seen[err], err)
		}
	}
}

// TestDecodeHuge: P9.2 and R1, elements with contents that no element has.
func TestDecodeHuge(t *testing.T) {
	for _, tag := range []int{0x81, 0x82, 0xa4, 0x87, 0x30} {
		for _, part := range []string{"a", "a.", "\x00", "\x30", "\x30\x80"} {
			checkDecode(t, element(tag, strings.Repeat(part, 1<<20)), false)
			checkDecode(t, element(tag, strings.Repeat(part, 1<<20)), true)
		}
	}
}
