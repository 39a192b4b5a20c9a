package hash_test

import (
	"encoding/hex"
	"strings"
	"testing"

	"certpath/hash"
)

// TestHex: P1.2, every byte, alone and among others.
func TestHex(t *testing.T) {
	var all strings.Builder
	for c := range 256 {
		all.WriteByte(byte(c))
	}
	texts := []string{"", "\x00\xff\x1a", "abc", "é", sample(1000), all.String()}
	for c := range 256 {
		texts = append(texts, all.String()[c:c+1])
	}
	for _, b := range texts {
		h := hash.Hex(b)
		if h != hex.EncodeToString([]byte(b)) {
			t.Errorf("Hex(%q) is %q", b, h)
		}
		if got, ok := hash.Unhex(h); got != b || !ok {
			t.Errorf("Unhex(%q) is %q, %v, want %q, true", h, got, ok, b)
		}
	}
}

// TestHexExamples: the examples of the chapter.
func TestHexExamples(t *testing.T) {
	if got := hash.Hex(hash.Sum()); got != "e3b0c44298fc1c149afbf4c8996fb92427ae41e4649b934ca495991b7852b855" {
		t.Errorf("Hex(Sum()) is %q", got)
	}
	if got := hash.Hex(hash.Short("abc")); got != "ba7816bf8f01cfea414140de5dae2223" {
		t.Errorf("Hex(Short(\"abc\")) is %q", got)
	}
}

// TestUnhexTwo: P1.2, every text of two bytes: it is a Hex exactly if both bytes are digits that Hex writes.
func TestUnhexTwo(t *testing.T) {
	const digits = "0123456789abcdef"
	for i := range 1 << 16 {
		text := string([]byte{byte(i >> 8), byte(i)})
		high, low := strings.IndexByte(digits, text[0]), strings.IndexByte(digits, text[1])
		b, valid := "", false
		if high >= 0 && low >= 0 {
			b, valid = string([]byte{byte(16*high + low)}), true
		}
		if got, ok := hash.Unhex(text); got != b || ok != valid {
			t.Errorf("Unhex(%q) is %q, %v, want %q, %v", text, got, ok, b, valid)
		}
	}
}

// TestUnhexInvalid: P1.2, texts that are not the Hex of any string.
func TestUnhexInvalid(t *testing.T) {
	texts := []string{"0", "f", "000", "0g", "AB", "aB", "Ab", "0x00", " 00", "00 ", "0 0 ", "00\n", "00\x00\x00", "-1", "+1", "é", "００", "00:ff", "zz", "//", "::", "``", "@@", "GG"}
	for at := range 6 {
		b := []byte("00ff1a")
		b[at] = 'F'
		texts = append(texts, string(b))
		b[at] = 'g'
		texts = append(texts, string(b))
	}
	for n := 1; n < 70; n += 2 {
		texts = append(texts, strings.Repeat("a", n))
	}
	for _, s := range texts {
		if b, ok := hash.Unhex(s); b != "" || ok {
			t.Errorf("Unhex(%q) is %q, %v, want an empty string and false", s, b, ok)
		}
	}
}
