package ots_test

import (
	"slices"
	"testing"

	"certpath/api"
	"certpath/ots"
)

// TestDigitsKnown: P11.1, digits that are written out here, with the example of the chapter.
func TestDigitsKnown(t *testing.T) {
	for _, k := range []struct {
		digest  string
		halves  []int
		summary [3]int
	}{
		{fill(0, 16), slices.Repeat([]int{0}, 32), [3]int{1, 14, 0}}, // 480
		{fill(0xff, 16), slices.Repeat([]int{15}, 32), [3]int{0, 0, 0}},
		{fill(0x0f, 16), slices.Repeat([]int{0, 15}, 16), [3]int{0, 15, 0}}, // 240
		{fill(0xf0, 16), slices.Repeat([]int{15, 0}, 16), [3]int{0, 15, 0}},
		{fill(0x77, 16), slices.Repeat([]int{7}, 32), [3]int{1, 0, 0}}, // 256
		{"\x87" + fill(0x77, 15), append([]int{8}, slices.Repeat([]int{7}, 31)...), [3]int{0, 15, 15}},
		{"\x67" + fill(0x77, 15), append([]int{6}, slices.Repeat([]int{7}, 31)...), [3]int{1, 0, 1}},
		{"\x70" + fill(0xff, 15), append([]int{7, 0}, slices.Repeat([]int{15}, 30)...), [3]int{0, 1, 7}}, // 23
		{fill(0xff, 15) + "\xf0", append(slices.Repeat([]int{15}, 31), 0), [3]int{0, 0, 15}},
		{fill(0xff, 15) + "\xe0", append(slices.Repeat([]int{15}, 30), 14, 0), [3]int{0, 1, 0}},
		{"\x00\x11\x22\x33\x44\x55\x66\x77\x88\x99\xaa\xbb\xcc\xdd\xee\xff", []int{0, 0, 1, 1, 2, 2, 3, 3, 4, 4, 5, 5, 6, 6, 7, 7, 8, 8, 9, 9, 10, 10, 11, 11, 12, 12, 13, 13, 14, 14, 15, 15}, [3]int{0, 15, 0}},
		{"\xfe\xdc\xba\x98\x76\x54\x32\x10\x01\x23\x45\x67\x89\xab\xcd\xe0", []int{15, 14, 13, 12, 11, 10, 9, 8, 7, 6, 5, 4, 3, 2, 1, 0, 0, 1, 2, 3, 4, 5, 6, 7, 8, 9, 10, 11, 12, 13, 14, 0}, [3]int{0, 15, 15}},
	} {
		want := append(slices.Clone(k.halves), k.summary[:]...)
		if l, err := ots.Digits(k.digest); !slices.Equal(l, want) || err != api.OK {
			t.Errorf("Digits(%x) is %v, %d, want %v", k.digest, l, err, want)
		}
	}
}

// TestDigitsSingle: P11.1, digests in which one half of one byte alone is not 0, or alone not 15.
func TestDigitsSingle(t *testing.T) {
	for at := range 16 {
		for half, shift := range []int{4, 0} {
			for d := range 16 {
				l := checkDigits(t, replace(fill(0, 16), at, byte(d<<shift)))
				want := make([]int, 32)
				want[2*at+half] = d
				if !slices.Equal(l[:32], want) || 256*l[32]+16*l[33]+l[34] != 480-d {
					t.Errorf("half %d of byte %d is %d: the digits are %v", half, at, d, l)
				}
				checkDigits(t, replace(fill(0xff, 16), at, 0xff-byte(d<<shift)))
			}
		}
	}
}

// TestDigitsBytes: P11.1, every byte in every place.
func TestDigitsBytes(t *testing.T) {
	for _, digest := range digests() {
		checkDigits(t, digest)
		for at := range digest {
			for c := range 256 {
				checkDigits(t, replace(digest, at, byte(c)))
			}
		}
	}
}

// TestDigitsSums: P11.1, every sum from 0 to 480, by digests whose halves grow one after the other.
func TestDigitsSums(t *testing.T) {
	seen := map[[3]int]bool{}
	b := make([]byte, 16)
	for n := range 481 {
		l := checkDigits(t, string(b))
		seen[[3]int(l[32:])] = true
		if sum := 256*l[32] + 16*l[33] + l[34]; sum != 480-n {
			t.Errorf("the digits of %x have the sum %d, want %d", b, sum, 480-n)
		}
		if n < 480 {
			b[n/30] += []byte{1, 16}[n/15%2]
		}
	}
	if len(seen) != 481 {
		t.Errorf("only %d sums", len(seen))
	}
}

// TestDigitsRandom: P11.1, random digests; there are 35 numbers from 0 to 15.
func TestDigitsRandom(t *testing.T) {
	for i := range int64(5000) {
		l := checkDigits(t, sample(i, 16))
		if len(l) != 35 || slices.Min(l) < 0 || slices.Max(l) > 15 {
			t.Errorf("the digits of %x are %v", sample(i, 16), l)
		}
	}
}

// TestDigitsInvalid: P11.1, what does not have DigestSize bytes.
func TestDigitsInvalid(t *testing.T) {
	for n := range 1000 {
		for _, digest := range []string{fill(0, n), fill(0xff, n), sample(1, n)} {
			l, err := ots.Digits(digest)
			if n == 16 && err != api.OK || n != 16 && (err != api.ErrValue || len(l) > 0) {
				t.Errorf("Digits of %d bytes is %v, %d", n, l, err)
			}
		}
	}
	if l, err := ots.Digits(fill(0, 1<<20)); err != api.ErrValue || len(l) > 0 {
		t.Errorf("Digits of many bytes is %v, %d", l, err)
	}
	if l, err := ots.Digits("ééééé ééééé"[:16]); err != api.OK || len(l) != 35 { // bytes are counted, not characters
		t.Errorf("Digits of 16 bytes with fewer characters is %v, %d", l, err)
	}
	if l, err := ots.Digits("éééééééééééééééé"); err != api.ErrValue || len(l) > 0 {
		t.Errorf("Digits of 16 characters with 32 bytes is %v, %d", l, err)
	}
}
