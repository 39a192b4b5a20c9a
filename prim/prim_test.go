package prim_test

import (
	"math/rand"
	"strings"
	"testing"
)

// eachShort calls f with every string of up to two bytes, and with every first and last byte of three.
func eachShort(f func(c string)) {
	f("")
	for i := range 256 {
		f(string([]byte{byte(i)}))
		for j := range 256 {
			f(string([]byte{byte(i), byte(j)}))
			for _, middle := range []byte{0x00, 0x01, 0x5a, 0x7f, 0x80, 0xff} {
				f(string([]byte{byte(i), middle, byte(j)}))
			}
		}
	}
}

// eachRandom calls f with n random strings of up to twelve bytes, in which bytes with few or many bits are frequent.
func eachRandom(seed int64, n int, f func(c string)) {
	r := rand.New(rand.NewSource(seed))
	frequent := []byte{0x00, 0x01, 0x02, 0x04, 0x07, 0x08, 0x40, 0x7f, 0x80, 0x81, 0xc0, 0xfe, 0xff}
	for range n {
		b := make([]byte, r.Intn(13))
		for i := range b {
			b[i] = frequent[r.Intn(len(frequent))]
			if r.Intn(3) == 0 {
				b[i] = byte(r.Intn(256))
			}
		}
		f(string(b))
	}
}

// digits returns the bits of b as digits, the most significant one of each byte first.
func digits(b string) string {
	var s strings.Builder
	for i := range len(b) {
		for weight := 128; weight > 0; weight /= 2 {
			if int(b[i])/weight%2 == 1 {
				s.WriteByte('1')
			} else {
				s.WriteByte('0')
			}
		}
	}
	return s.String()
}

// TestDigits checks the tests' own digits.
func TestDigits(t *testing.T) {
	if digits("") != "" || digits("\x01\x80\xc5") != "000000011000000011000101" {
		t.Error("digits of some bytes")
	}
}
