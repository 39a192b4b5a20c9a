package hash_test

import (
	"crypto/sha256"
	"slices"
	"strings"
	"testing"

	"certpath/api"
	"certpath/hash"
)

// sample returns n bytes in which no two blocks are the same.
func sample(n int) string {
	b := make([]byte, n)
	x := uint32(1)
	for i := range b {
		x = x*1664525 + 1013904223
		b[i] = byte(x >> 24)
	}
	return string(b)
}

// want is the SHA-256 of the standard library.
func want(b string) string {
	d := sha256.Sum256([]byte(b))
	return string(d[:])
}

// edges are lengths about the ends of blocks, and of the room for the length in them.
var edges = []int{0, 1, 54, 55, 56, 57, 62, 63, 64, 65, 118, 119, 120, 121, 127, 128, 129, 191, 192, 193}

// TestSumKnown: P1.1, the examples of the chapter and those of FIPS 180-4.
func TestSumKnown(t *testing.T) {
	for _, c := range []struct{ text, digest string }{
		{"", "e3b0c44298fc1c149afbf4c8996fb92427ae41e4649b934ca495991b7852b855"},
		{"abc", "ba7816bf8f01cfea414140de5dae2223b00361a396177a9cb410ff61f20015ad"},
		{"abcdbcdecdefdefgefghfghighijhijkijkljklmklmnlmnomnopnopq", "248d6a61d20638b8e5c026930c3e6039a33ce45964ff2167f6ecedd419db06c1"},
		{strings.Repeat("a", 1000000), "cdc76e5c9914fb9281a1c7e284d73e67f1809a48a497200e046d39ccc7112cd0"},
	} {
		if got := hash.Hex(hash.Sum(c.text)); got != c.digest {
			t.Errorf("Sum of %d bytes is %s, want %s", len(c.text), got, c.digest)
		}
	}
}

// TestSumLengths: P1.1 for every length up to some blocks, and some great ones.
func TestSumLengths(t *testing.T) {
	lengths := []int{4095, 4096, 4097, 65535, 65536, 1<<17 + 3}
	for n := range 5*64 + 2 {
		lengths = append(lengths, n)
	}
	for _, n := range lengths {
		for _, b := range []string{sample(n), strings.Repeat("\x00", n), strings.Repeat("\xff", n)} {
			if got := hash.Sum(b); got != want(b) {
				t.Errorf("Sum of %d bytes %.4q.. is %s, want %s", n, b, hash.Hex(got), hash.Hex(want(b)))
			}
		}
	}
}

// TestSumArguments: P1.1, no arguments, empty ones and several ones.
func TestSumArguments(t *testing.T) {
	for _, c := range []struct {
		l   []string
		all string
	}{
		{nil, ""},
		{[]string{}, ""},
		{[]string{""}, ""},
		{[]string{"", "", ""}, ""},
		{[]string{"a", "", "bc"}, "abc"},
		{[]string{"", "abc", ""}, "abc"},
		{[]string{"b", "a"}, "ba"},
		{[]string{"\x00", "\x00\x80"}, "\x00\x00\x80"},
		{[]string{sample(64), ""}, sample(64)},
		{slices.Repeat([]string{"ab"}, 100), strings.Repeat("ab", 100)},
	} {
		before := slices.Clone(c.l)
		if got := hash.Sum(c.l...); got != want(c.all) || len(got) != 32 {
			t.Errorf("Sum(%q) is %s, want %s", c.l, hash.Hex(got), hash.Hex(want(c.all)))
		}
		if got := hash.Short(c.l...); got != want(c.all)[:16] || len(got) != api.DigestSize {
			t.Errorf("Short(%q) is %s, want the first 16 bytes of %s", c.l, hash.Hex(got), hash.Hex(want(c.all)))
		}
		if !slices.Equal(c.l, before) {
			t.Errorf("the arguments %q have become %q", before, c.l)
		}
	}
}

// TestSumLong: P1.1 and P1.3 for so many bytes that the number of their bits needs more than 32 bits.
func TestSumLong(t *testing.T) {
	if testing.Short() {
		t.Skip("half a gigabyte takes seconds")
	}
	t.Parallel()
	part := sample(1 << 22)
	bytes := []byte(part)
	s, other := hash.Start(), sha256.New()
	for s.Len() < 1<<29 {
		s.Write(part)
		other.Write(bytes)
	}
	if s.Len() != 1<<29 || s.Sum() != string(other.Sum(nil)) {
		t.Errorf("Sum of %d bytes is %s, want %x", s.Len(), hash.Hex(s.Sum()), other.Sum(nil))
	}
}
