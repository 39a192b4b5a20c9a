package ots_test

import (
	"encoding/binary"
	"fmt"
	"math/rand"
	"slices"
	"strconv"
	"strings"
	"testing"

	"certpath/api"
	"certpath/hash"
	"certpath/ots"
)

// Sizes that the chapter says, as numbers.
const (
	idSize        = 16
	seedSize      = 32
	digestSize    = 16
	chains        = 35
	signatureSize = 560
	lastLeaf      = 255
)

// sample returns n bytes, other ones for each number.
func sample(number int64, n int) string {
	b := make([]byte, n)
	rand.New(rand.NewSource(number)).Read(b)
	return string(b)
}

// fill returns n bytes that are all c.
func fill(c byte, n int) string {
	return strings.Repeat(string([]byte{c}), n)
}

// count returns the n bytes from c on.
func count(c byte, n int) string {
	b := make([]byte, n)
	for i := range b {
		b[i] = c + byte(i)
	}
	return string(b)
}

// replace returns s with another byte at a place.
func replace(s string, at int, c byte) string {
	return s[:at] + string([]byte{c}) + s[at+1:]
}

// b4 is B4 of the chapter.
func b4(n int) string {
	return string(binary.BigEndian.AppendUint32(nil, uint32(n)))
}

// b1 is B1 of the chapter.
func b1(n int) string {
	return string([]byte{byte(n)})
}

// modelDigits is P11.1, by the hexadecimal digits of texts.
func modelDigits(digest string) []int {
	sum := 0
	values := func(text string) []int {
		var l []int
		for _, c := range text {
			n, err := strconv.ParseInt(string(c), 16, 64)
			if err != nil {
				panic(err)
			}
			l = append(l, int(n))
		}
		return l
	}
	l := values(fmt.Sprintf("%x", digest))
	for _, d := range l {
		sum += 15 - d
	}
	return append(l, values(fmt.Sprintf("%03x", sum))...)
}

// modelStep is a step of a chain, from the position p to the next one.
func modelStep(id string, leaf, c, p int, value string) string {
	return hash.Short("C" + id + b4(leaf) + b1(c) + b1(p) + value)
}

// modelChain returns the values of a chain at all positions, 0 to 15.
func modelChain(id, seed string, leaf, c int) [16]string {
	var l [16]string
	l[0] = hash.Short("S" + seed + b4(leaf) + b1(c))
	for p := range 15 {
		l[p+1] = modelStep(id, leaf, c, p, l[p])
	}
	return l
}

// modelPublic is P11.2.
func modelPublic(id, seed string, leaf int) string {
	all := "L" + id + b4(leaf)
	for c := range chains {
		all += modelChain(id, seed, leaf, c)[15]
	}
	return hash.Short(all)
}

// modelSign is P11.3.
func modelSign(id, seed string, leaf int, digest string) string {
	all := ""
	for c, d := range modelDigits(digest) {
		all += modelChain(id, seed, leaf, c)[d]
	}
	return all
}

// modelRecover is P11.4.
func modelRecover(id string, leaf int, digest, signature string) string {
	all := "L" + id + b4(leaf)
	for c, p := range modelDigits(digest) {
		value := signature[16*c : 16*c+16]
		for p != 15 {
			value = modelStep(id, leaf, c, p, value)
			p++
		}
		all += value
	}
	return hash.Short(all)
}

// key is what a one-time key is made from.
type key struct {
	id, seed string
	leaf     int
}

// keys returns keys with several ids, seeds and leaves.
func keys() []key {
	l := []key{
		{count(0, idSize), count(16, seedSize), 0},
		{count(0, idSize), count(16, seedSize), 1},
		{count(0, idSize), count(16, seedSize), lastLeaf},
		{fill(0, idSize), fill(0, seedSize), 0},
		{fill(0, idSize), fill(0xff, seedSize), lastLeaf},
		{fill(0xff, idSize), fill(0, seedSize), lastLeaf},
		{fill(0xff, idSize), fill(0xff, seedSize), 0},
		{hash.Short("I"), hash.Sum("seed"), 127},
		{hash.Short("I"), hash.Sum("seed"), 128},
		{strings.Repeat("é", idSize/2), strings.Repeat("\xff\x00", seedSize/2), 254},
	}
	for i := range int64(6) {
		l = append(l, key{sample(100+i, idSize), sample(200+i, seedSize), int(37 * i)})
	}
	return l
}

// digests returns digests with small and great halves in many places.
func digests() []string {
	l := []string{
		fill(0, digestSize), fill(0xff, digestSize), fill(0x0f, digestSize), fill(0xf0, digestSize), fill(0x77, digestSize), fill(0x88, digestSize), fill(0x80, digestSize),
		"\x00\x11\x22\x33\x44\x55\x66\x77\x88\x99\xaa\xbb\xcc\xdd\xee\xff", "\xfe\xdc\xba\x98\x76\x54\x32\x10\x01\x23\x45\x67\x89\xab\xcd\xef",
		hash.Short(""), hash.Short("abc"), "digest in ascii!", strings.Repeat("é", digestSize/2),
	}
	for i := range int64(6) {
		l = append(l, sample(300+i, digestSize))
	}
	return l
}

// singles returns the digests in which one half of one byte alone is not 0.
func singles() []string {
	var l []string
	for at := range digestSize {
		for d := 1; d < 16; d++ {
			l = append(l, replace(fill(0, digestSize), at, byte(d)), replace(fill(0, digestSize), at, byte(d<<4)))
		}
	}
	return l
}

// checkDigits compares Digits with P11.1, and returns them.
func checkDigits(t *testing.T, digest string) []int {
	t.Helper()
	l, err := ots.Digits(digest)
	if want := modelDigits(digest); !slices.Equal(l, want) || err != api.OK {
		t.Errorf("Digits(%x) is %v, %d, want %v", digest, l, err, want)
	}
	return l
}

// checkPublic compares Public with P11.2, and returns it.
func checkPublic(t *testing.T, k key) string {
	t.Helper()
	public, err := ots.Public(k.id, k.seed, k.leaf)
	if want := modelPublic(k.id, k.seed, k.leaf); public != want || err != api.OK {
		t.Errorf("Public(%x, %x, %d) is %x, %d, want %x", k.id, k.seed, k.leaf, public, err, want)
	}
	return public
}

// checkSign compares Sign with P11.3, and returns it.
func checkSign(t *testing.T, k key, digest string) string {
	t.Helper()
	signature, err := ots.Sign(k.id, k.seed, k.leaf, digest)
	if want := modelSign(k.id, k.seed, k.leaf, digest); signature != want || err != api.OK {
		t.Errorf("Sign(%x, %x, %d, %x) is %x, %d, want %x", k.id, k.seed, k.leaf, digest, signature, err, want)
	}
	return signature
}

// checkRecover compares Recover with P11.4, and returns it.
func checkRecover(t *testing.T, id string, leaf int, digest, signature string) string {
	t.Helper()
	public, err := ots.Recover(id, leaf, digest, signature)
	if want := modelRecover(id, leaf, digest, signature); public != want || err != api.OK {
		t.Errorf("Recover(%x, %d, %x, %x) is %x, %d, want %x", id, leaf, digest, signature, public, err, want)
	}
	return public
}
