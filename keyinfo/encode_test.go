package keyinfo_test

import (
	"crypto/sha256"
	"crypto/x509/pkix"
	"encoding/asn1"
	"testing"

	"certpath/api"
	"certpath/hash"
	"certpath/keyinfo"
	"certpath/merkle"
)

// known are keys with their encodings, and their identifiers, which another program has reckoned.
var known = []struct {
	k             api.Key
	b, identifier string
}{
	{
		api.Key{Height: 0, ID: fill(0, 16), Root: fill(0, 16)},
		"30 32 300c060a2b0601040183cc080101 03 22 00 00 00000000000000000000000000000000 00000000000000000000000000000000",
		"7f9c9e31ac8256ca2f258583df262dbc",
	},
	{
		api.Key{Height: 8, ID: fill(0xff, 16), Root: fill(0xff, 16)},
		"30 32 300c060a2b0601040183cc080101 03 22 00 08 ffffffffffffffffffffffffffffffff ffffffffffffffffffffffffffffffff",
		"28a3c3890f87c5054ee921bb6f8e649d",
	},
	{
		api.Key{Height: 2, ID: count(0, 16), Root: count(16, 16)},
		"30 32 300c060a2b0601040183cc080101 03 22 00 02 000102030405060708090a0b0c0d0e0f 101112131415161718191a1b1c1d1e1f",
		"121e01fd47d8c2ecdb10fa6f0a51a97a",
	},
	{
		api.Key{Height: 5, ID: "0123456789abcdef", Root: "ghijklmnopqrstuv"},
		"30 32 300c060a2b0601040183cc080101 03 22 00 05 30313233343536373839616263646566 6768696a6b6c6d6e6f70717273747576",
		"d74e13ab34dacf28ec72981ea7b57373",
	},
	{
		api.Key{Height: 8, ID: fill(0, 16), Root: fill(0xff, 16)},
		"30 32 300c060a2b0601040183cc080101 03 22 00 08 00000000000000000000000000000000 ffffffffffffffffffffffffffffffff",
		"c7734dc1f339a1855884e65035d20c04",
	},
}

// TestKnown: P14.2 and P14.3, keys with the encodings and identifiers that are written out above.
func TestKnown(t *testing.T) {
	for _, x := range known {
		want := unhex(t, x.b)
		if b, err := keyinfo.Encode(x.k); b != want || err != api.OK {
			t.Errorf("Encode(%x) is %x, %d, want %x", x.k, b, err, want)
		}
		if k, err := keyinfo.Decode(want); k != x.k || err != api.OK {
			t.Errorf("Decode(%x) is %x, %d, want %x", want, k, err, x.k)
		}
		if s := keyinfo.Identifier(x.k); s != unhex(t, x.identifier) {
			t.Errorf("Identifier(%x) is %x, want %s", x.k, s, x.identifier)
		}
	}
}

// library returns the encoding that Go's library has for a key.
func library(t *testing.T, k api.Key) string {
	t.Helper()
	b, err := asn1.Marshal(struct {
		Algorithm pkix.AlgorithmIdentifier
		Bits      asn1.BitString
	}{
		pkix.AlgorithmIdentifier{Algorithm: asn1.ObjectIdentifier{1, 3, 6, 1, 4, 1, 58888, 1, 1}},
		asn1.BitString{Bytes: []byte(keyBits(k)), BitLength: 8 * bitsSize},
	})
	if err != nil {
		t.Fatal(err)
	}
	return string(b)
}

// TestEncode: P14.2 and the example, the encodings of keys of trees and of keys that are made here, against bytes that are put together here and those of Go's library; Decode returns the key again.
func TestEncode(t *testing.T) {
	for _, k := range keys(t) {
		b := encode(t, k)
		if want := modelEncode(k); b != want || b != library(t, k) || len(b) != encodedSize {
			t.Errorf("Encode(%x) is %x, want %x, that of the library is %x", k, b, want, library(t, k))
		}
		again, err := keyinfo.Decode(b)
		if again != k || err != api.OK {
			t.Errorf("Decode of Encode(%x) is %x, %d", k, again, err)
		}
		if encode(t, again) != b {
			t.Errorf("Encode of Decode(%x) is %x", b, encode(t, again))
		}
	}
}

// TestEncodeParts: P14.2, what Encode returns consists of Algorithm and a bit string without unused bits.
func TestEncodeParts(t *testing.T) {
	for _, k := range keys(t) {
		want := seq(keyinfo.Algorithm(), "\x03\x22\x00"+keyBits(k))
		if b := encode(t, k); b != want {
			t.Errorf("Encode(%x) is %x, want %x", k, b, want)
		}
	}
}

// TestEncodeDiffers: P14.2, keys that differ in any byte have other encodings, which lead to each of them again.
func TestEncodeDiffers(t *testing.T) {
	seen := map[string]api.Key{}
	for _, k := range neighbours() {
		b := encode(t, k)
		if other, ok := seen[b]; ok {
			t.Errorf("%x and %x have the same encoding", k, other)
		}
		seen[b] = k
	}
	for b, k := range seen {
		if again, err := keyinfo.Decode(b); again != k || err != api.OK {
			t.Errorf("Decode(%x) is %x, %d, want %x", b, again, err, k)
		}
	}
}

// neighbours returns a key, and all keys that differ from it in the height, in one byte, or in the order of the parts.
func neighbours() []api.Key {
	base := api.Key{Height: 3, ID: count(0x20, 16), Root: count(0x90, 16)}
	l := []api.Key{base, {Height: 3, ID: base.Root, Root: base.ID}}
	for height := range maxHeight + 1 {
		if height != base.Height {
			l = append(l, api.Key{Height: height, ID: base.ID, Root: base.Root})
		}
	}
	for at := range digestSize {
		for c := 1; c < 256; c += 6 {
			k := base
			k.ID = replace(k.ID, at, k.ID[at]^byte(c))
			l = append(l, k)
			k = base
			k.Root = replace(k.Root, at, k.Root[at]^byte(c))
			l = append(l, k)
		}
	}
	return l
}

// TestBadKeys: P14.2 and P14.3, keys that merkle.Check refuses have its error, and neither an encoding nor an identifier.
func TestBadKeys(t *testing.T) {
	for _, k := range badKeys() {
		if want := merkle.Check(k); want != api.ErrKey {
			t.Fatalf("merkle.Check(%x) is %d", k, want)
		}
		if b, err := keyinfo.Encode(k); b != "" || err != api.ErrKey {
			t.Errorf("Encode(%x) is %x, %d, want ErrKey", k, b, err)
		}
		if s := keyinfo.Identifier(k); s != "" {
			t.Errorf("Identifier(%x) is %x, want nothing", k, s)
		}
	}
}

// TestBounds: P14.2 and P14.3, every height and every length of ID and Root about their bounds: exactly the valid keys have an encoding and an identifier.
func TestBounds(t *testing.T) {
	for height := -20; height < 300; height++ {
		for _, lengths := range [][2]int{{16, 16}, {15, 16}, {17, 16}, {16, 15}, {16, 17}, {15, 17}, {17, 15}, {0, 32}, {32, 0}, {0, 0}, {16, 0}, {0, 16}} {
			k := api.Key{Height: height, ID: fill('a', lengths[0]), Root: fill('b', lengths[1])}
			b, err := keyinfo.Encode(k)
			if (err == api.OK) != valid(k) || (b == "") == valid(k) || err != api.OK && err != api.ErrKey {
				t.Errorf("Encode(%x) is %x, %d", k, b, err)
			}
			if s := keyinfo.Identifier(k); (s == "") == valid(k) {
				t.Errorf("Identifier(%x) is %x", k, s)
			}
		}
	}
}

// TestIdentifier: P14.3, the identifiers of keys of trees and of keys that are made here, against those of package hash and of Go's library for bytes that are put together here.
func TestIdentifier(t *testing.T) {
	for _, k := range keys(t) {
		sum := sha256.Sum256([]byte(keyBits(k)))
		s, want := keyinfo.Identifier(k), hash.Short(string([]byte{byte(k.Height)}), k.ID, k.Root)
		if s != want || s != string(sum[:digestSize]) {
			t.Errorf("Identifier(%x) is %x, want %x, that of the library is %x", k, s, want, sum[:digestSize])
		}
	}
}

// TestIdentifierBits: P14.3, the identifier is that of the bytes at the end of the encoding, behind the number of unused bits.
func TestIdentifierBits(t *testing.T) {
	for _, k := range keys(t) {
		b := encode(t, k)
		if s, want := keyinfo.Identifier(k), hash.Short(b[len(b)-bitsSize:]); s != want {
			t.Errorf("Identifier(%x) is %x, want %x", k, s, want)
		}
	}
}

// TestIdentifierDiffers: P14.3, each part of a key counts. (R8 promises nothing about digests; that they differ holds for these samples.)
func TestIdentifierDiffers(t *testing.T) {
	seen := map[string]api.Key{}
	for _, k := range neighbours() {
		s := keyinfo.Identifier(k)
		if other, ok := seen[s]; ok || len(s) != digestSize {
			t.Errorf("Identifier(%x) is %x, as that of %x", k, s, other)
		}
		seen[s] = k
	}
}
