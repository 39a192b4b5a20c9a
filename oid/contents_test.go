package oid_test

import (
	"encoding/asn1"
	"math/rand"
	"strconv"
	"strings"
	"testing"

	"certpath/api"
	"certpath/oid"
)

// checkEncode compares Encode with P4.2, and Decode with it.
func checkEncode(t *testing.T, s string) {
	t.Helper()
	want, wantErr := "", api.ErrOID
	if l, ok := arcs(s); ok {
		want, wantErr = contents(l), api.OK
	}
	c, err := oid.Encode(s)
	if c != want || err != wantErr {
		t.Fatalf("Encode(%.100q) is % x, %d, want % x, %d", s, c, err, want, wantErr)
	}
	if err != api.OK {
		return
	}
	if again, err := oid.Decode(c); again != s || err != api.OK {
		t.Fatalf("Decode of Encode(%q) is %q, %d", s, again, err)
	}
}

// checkDecode compares Decode with P4.3: of the texts that the contents could have, it is the one with these contents.
func checkDecode(t *testing.T, c string) {
	t.Helper()
	want, wantErr := "", api.ErrOID
	for _, s := range texts(c) {
		if l, ok := arcs(s); ok && contents(l) == c {
			want, wantErr = s, api.OK
		}
	}
	s, err := oid.Decode(c)
	if s != want || err != wantErr {
		t.Fatalf("Decode(% .60x) is %q, %d, want %q, %d", c, s, err, want, wantErr)
	}
	if err != api.OK {
		return
	}
	if again, err := oid.Encode(s); again != c || err != api.OK {
		t.Fatalf("Decode accepts % x, but Encode writes % x, %d", c, again, err)
	}
}

// TestEncodeKnown: P4.2 and P4.3, contents that are written out here.
func TestEncodeKnown(t *testing.T) {
	for _, k := range []struct{ s, c string }{
		{"2.5.29.19", "\x55\x1d\x13"},
		{"0.0", "\x00"}, {"0.1", "\x01"}, {"0.39", "\x27"},
		{"1.0", "\x28"}, {"1.2", "\x2a"}, {"1.39", "\x4f"},
		{"2.0", "\x50"}, {"2.39", "\x77"}, {"2.40", "\x78"}, {"2.47", "\x7f"},
		{"2.48", "\x81\x00"}, {"2.49", "\x81\x01"}, {"2.175", "\x81\x7f"}, {"2.176", "\x82\x00"}, {"2.999", "\x88\x37"},
		{"2.16303", "\xff\x7f"}, {"2.16304", "\x81\x80\x00"},
		{"2.2147483567", "\x87\xff\xff\xff\x7f"}, {"2.2147483568", "\x88\x80\x80\x80\x00"}, {"2.2147483647", "\x88\x80\x80\x80\x4f"},
		{"1.2.0", "\x2a\x00"}, {"1.2.0.0", "\x2a\x00\x00"}, {"0.0.0", "\x00\x00"}, {"1.2.39", "\x2a\x27"}, {"1.2.40", "\x2a\x28"},
		{"1.2.127", "\x2a\x7f"}, {"1.2.128", "\x2a\x81\x00"}, {"1.2.16383", "\x2a\xff\x7f"}, {"1.2.16384", "\x2a\x81\x80\x00"},
		{"1.2.2097151", "\x2a\xff\xff\x7f"}, {"1.2.2097152", "\x2a\x81\x80\x80\x00"},
		{"1.2.268435455", "\x2a\xff\xff\xff\x7f"}, {"1.2.268435456", "\x2a\x81\x80\x80\x80\x00"},
		{"1.2.2147483647", "\x2a\x87\xff\xff\xff\x7f"}, {"2.2147483647.2147483647", "\x88\x80\x80\x80\x4f\x87\xff\xff\xff\x7f"},
		{api.OIDAlgorithm, "\x2b\x06\x01\x04\x01\x83\xcc\x08\x01\x01"},
		{api.OIDMail, "\x2a\x86\x48\x86\xf7\x0d\x01\x09\x01"},
		{api.OIDDomain, "\x09\x92\x26\x89\x93\xf2\x2c\x64\x01\x19"},
		{"1.2" + strings.Repeat(".1", api.MaxArcs-2), "\x2a" + strings.Repeat("\x01", api.MaxArcs-2)},
		{"2" + strings.Repeat(".2147483647", api.MaxArcs-1), "\x88\x80\x80\x80\x4f" + strings.Repeat("\x87\xff\xff\xff\x7f", api.MaxArcs-2)},
	} {
		if c, err := oid.Encode(k.s); c != k.c || err != api.OK {
			t.Errorf("Encode(%q) is % x, %d, want % x", k.s, c, err, k.c)
		}
		if s, err := oid.Decode(k.c); s != k.s || err != api.OK {
			t.Errorf("Decode(% x) is %q, %d, want %q", k.c, s, err, k.s)
		}
	}
}

// TestEncode: P4.2, edges and random object identifiers, and texts that are none.
func TestEncode(t *testing.T) {
	for _, s := range some() {
		checkEncode(t, s)
	}
	for _, s := range append(long(), invalid...) {
		if c, err := oid.Encode(s); c != "" || err != api.ErrOID {
			t.Errorf("Encode(%.100q) is % x, %d, want ErrOID", s, c, err)
		}
	}
	r := rand.New(rand.NewSource(2))
	for range 20000 {
		checkEncode(t, random(r))
	}
}

// TestEncodeSecond: P4.2 and P4.3, every second arc up to some thousands, and each one about the greatest.
func TestEncodeSecond(t *testing.T) {
	for first := range 4 {
		for second := range 20000 {
			checkEncode(t, strconv.Itoa(first)+"."+strconv.Itoa(second))
		}
		for second := api.MaxArc - 200; second < api.MaxArc+200; second++ {
			checkEncode(t, strconv.Itoa(first)+"."+strconv.Itoa(second))
		}
	}
}

// TestEncodeArcs: P4.2 and P4.3, every further arc up to some thousands, and those about powers of 2.
func TestEncodeArcs(t *testing.T) {
	for arc := range 20000 {
		checkEncode(t, "1.2."+strconv.Itoa(arc))
	}
	for shift := range 34 {
		for near := -2; near <= 2; near++ {
			checkEncode(t, "1.2."+strconv.Itoa(1<<shift+near)+".3")
		}
	}
}

// TestEncodeLibrary: P4.2, against Go's own encoder.
func TestEncodeLibrary(t *testing.T) {
	r := rand.New(rand.NewSource(3))
	for range 20000 {
		s := random(r)
		var l asn1.ObjectIdentifier
		for _, p := range strings.Split(s, ".") {
			n, _ := strconv.Atoi(p)
			l = append(l, n)
		}
		want, err := asn1.Marshal(l)
		if err != nil {
			t.Fatal(err)
		}
		if c, err := oid.Encode(s); c != string(want[2:]) || err != api.OK {
			t.Fatalf("Encode(%q) is % x, %d, want % x", s, c, err, want[2:])
		}
	}
}

// TestDecodeErrors: P4.3, contents that are those of no object identifier.
func TestDecodeErrors(t *testing.T) {
	five := "\x87\xff\xff\xff\x7f" // MaxArc
	for _, c := range []string{
		"", "\x80", "\x81", "\xff", "\x80\x00", "\x80\x01", "\x80\x80", "\x80\x80\x01", "\x80\x81\x00",
		"\x2a\x80", "\x2a\x81", "\x2a\xff", "\x2a\x80\x00", "\x2a\x80\x01", "\x2a\x01\x80\x01", "\x2a\x80\x01\x01", "\x2a\x80\x81\x00",
		"\x55\x1d\x93", "\x55\x9d", "\x55\x1d\x80\x13", "\x2a\x87\xff\xff\xff\xff", "\x2a\x87\xff\xff\xff",
		"\x88\x80\x80\x80\x50", "\x88\x80\x80\x81\x00", "\x88\x80\x80\x81\x4f", "\x89\x80\x80\x80\x00", "\xff\xff\xff\xff\x7f", "\x81\x80\x80\x80\x80\x00",
		"\x2a\x88\x80\x80\x80\x00", "\x2a\x88\x80\x80\x80\x4f", "\x2a\x8f\xff\xff\xff\x7f", "\x2a\x90\x80\x80\x80\x00", "\x2a\x90\x80\x80\x80\x01", "\x2a\x81\x80\x80\x80\x80\x00",
		"\x2a\x82\x80\x80\x80\x80\x80\x80\x80\x80\x01", "\x82\x80\x80\x80\x80\x80\x80\x80\x80\x2a", // 1 and 42 modulo 2^64
		"\x2a" + five + "\x88\x80\x80\x80\x00", "\x2a\x88\x80\x80\x80\x00" + five,
		"\x2a" + strings.Repeat("\x01", api.MaxArcs-1), "\x2a" + strings.Repeat("\x00", api.MaxArcs-1), "\x2a" + strings.Repeat("\x01", api.MaxArcs-2) + "\x81",
		"\x2a" + strings.Repeat("\x01", api.MaxArcs-2) + "\x80", "\x88\x80\x80\x80\x4f" + strings.Repeat(five, api.MaxArcs-1),
		strings.Repeat("\x01", 100000), strings.Repeat("\x81", 100000), strings.Repeat("\x80", 100000) + "\x01", "\x2a" + strings.Repeat("\x80", 100000) + "\x01",
		"\x2a" + strings.Repeat("\xff", 100000) + "\x7f", strings.Repeat("\x80", 9) + "\x2a",
	} {
		if s, err := oid.Decode(c); s != "" || err != api.ErrOID {
			t.Errorf("Decode of %d bytes % .20x is %q, %d, want ErrOID", len(c), c, s, err)
		}
	}
}

// TestDecodeShort: P4.3, every contents of up to two bytes, and every two bytes behind others, among them the beginnings of the greatest numbers.
func TestDecodeShort(t *testing.T) {
	for i := range 256 {
		checkDecode(t, string([]byte{byte(i)}))
		for j := range 256 {
			for _, before := range []string{"", "\x2a", "\x81", "\x88\x80\x80", "\x2a\x87\xff\xff"} {
				checkDecode(t, before+string([]byte{byte(i), byte(j)}))
			}
		}
	}
}

// TestDecodeParts: P4.3, object identifiers cut off at each place, and with bytes added.
func TestDecodeParts(t *testing.T) {
	r := rand.New(rand.NewSource(4))
	for range 500 {
		c, err := oid.Encode(random(r))
		if err != api.OK {
			t.Fatal(err)
		}
		for i := range len(c) + 1 {
			checkDecode(t, c[:i])
			checkDecode(t, c[i:])
			checkDecode(t, c[:i]+"\x80"+c[i:])
			checkDecode(t, c[:i]+"\x81"+c[i:])
			checkDecode(t, c[:i]+"\x00"+c[i:])
		}
	}
}

// TestDecodeRandom: P4.3, random contents of all lengths, in which numbers are mostly short.
func TestDecodeRandom(t *testing.T) {
	r := rand.New(rand.NewSource(5))
	for range 30000 {
		var b []byte
		for range r.Intn(api.MaxArcs + 2) {
			for range r.Intn(6) * r.Intn(2) {
				b = append(b, byte(128+r.Intn(128)))
			}
			b = append(b, byte(r.Intn(128)))
		}
		if len(b) > 0 && r.Intn(4) == 0 {
			b[r.Intn(len(b))] = []byte{0x00, 0x7f, 0x80, 0x81, 0x87, 0x88, 0xff}[r.Intn(7)]
		}
		checkDecode(t, string(b))
	}
}
