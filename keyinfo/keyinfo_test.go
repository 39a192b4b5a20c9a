package keyinfo_test

import (
	"encoding/hex"
	"math/rand"
	"strings"
	"testing"

	"certpath/api"
	"certpath/hash"
	"certpath/keyinfo"
	"certpath/merkle"
	"certpath/oid"
	"certpath/prim"
	"certpath/tlv"
)

// Numbers that the chapter and the document say.
const (
	digestSize  = 16
	maxHeight   = 8
	bitsSize    = 33 // bytes of the bit string of a key
	encodedSize = 52 // bytes of the encoding of a key
)

// sample returns n bytes, other ones for each number.
func sample(number int64, n int) string {
	b := make([]byte, n)
	rand.New(rand.NewSource(number)).Read(b)
	return string(b)
}

// fill returns n bytes that are all c.
func fill(c byte, n int) string {
	return strings.Repeat(string([]byte{c}), n)
}

// count returns the n bytes from c on.
func count(c byte, n int) string {
	b := make([]byte, n)
	for i := range b {
		b[i] = c + byte(i)
	}
	return string(b)
}

// replace returns s with another byte at a place.
func replace(s string, at int, c byte) string {
	return s[:at] + string([]byte{c}) + s[at+1:]
}

// unhex returns the bytes that hexadecimal digits, with spaces among them, say.
func unhex(t *testing.T, digits string) string {
	t.Helper()
	b, err := hex.DecodeString(strings.ReplaceAll(digits, " ", ""))
	if err != nil {
		t.Fatal(err)
	}
	return string(b)
}

// der is tlv.Wrap without an error.
func der(tag int, contents ...string) string {
	b, err := tlv.Wrap(tag, contents...)
	if err != api.OK {
		panic("tlv.Wrap has an error")
	}
	return b
}

// seq returns a sequence.
func seq(contents ...string) string { return der(api.TagSequence, contents...) }

// idOf returns the element of an object identifier.
func idOf(s string) string {
	c, err := oid.Encode(s)
	if err != api.OK {
		panic("oid.Encode has an error")
	}
	return der(api.TagOID, c)
}

// bits returns the element of a bit string.
func bits(b string, unused int) string {
	c, err := prim.PutBits(b, unused)
	if err != api.OK {
		panic("prim.PutBits has an error")
	}
	return der(api.TagBits, c)
}

// algorithm is the whole element of the algorithm, by the words of the chapter.
func algorithm() string { return seq(idOf("1.3.6.1.4.1.58888.1.1")) }

// keyBits are the bytes of the bit string of a key, by the words of the chapter.
func keyBits(k api.Key) string {
	return string([]byte{byte(k.Height)}) + k.ID + k.Root
}

// modelEncode is P14.2 for a key that has no error.
func modelEncode(k api.Key) string {
	return seq(algorithm(), bits(keyBits(k), 0))
}

// valid reports whether a key has the bounds of merkle.Check, by the words of its chapter.
func valid(k api.Key) bool {
	return k.Height >= 0 && k.Height <= maxHeight && len(k.ID) == digestSize && len(k.Root) == digestSize
}

// element returns the element that b is.
func element(t *testing.T, b string) api.Element {
	t.Helper()
	e, err := tlv.One(b)
	if err != api.OK {
		t.Fatalf("tlv.One(%x) has the error %d", b, err)
	}
	return e
}

// encode is Encode without an error.
func encode(t *testing.T, k api.Key) string {
	t.Helper()
	b, err := keyinfo.Encode(k)
	if err != api.OK {
		t.Fatalf("Encode(%x) has the error %d", k, err)
	}
	return b
}

// treeKeys returns the keys of several trees: of every height, and of several seeds.
func treeKeys(t *testing.T) []api.Key {
	t.Helper()
	var l []api.Key
	generate := func(seed string, height int) {
		tree, err := merkle.Generate(seed, height)
		if err != api.OK {
			t.Fatalf("merkle.Generate(%x, %d) has the error %d", seed, height, err)
		}
		l = append(l, tree.Key())
	}
	for height := range maxHeight + 1 {
		generate(count(0, 32), height)
	}
	for number, seed := range []string{fill(0, 32), fill(0xff, 32), hash.Sum("seed"), sample(1, 32), sample(2, 32)} {
		generate(seed, number%4)
	}
	return l
}

// ownKeys returns keys that are put together here: with every height, and with the least and the greatest bytes.
func ownKeys() []api.Key {
	l := []api.Key{
		{Height: 0, ID: "0123456789abcdef", Root: "ghijklmnopqrstuv"},
		{Height: 8, ID: "0123456789abcdef", Root: "0123456789abcdef"},
		{Height: 3, ID: strings.Repeat("é", 8), Root: "KEY1KEY1KEY1KEY1"},
	}
	for height := range maxHeight + 1 {
		for _, id := range []string{fill(0, 16), fill(0xff, 16), count(0x80, 16)} {
			for _, root := range []string{fill(0, 16), fill(0xff, 16), count(0xf0, 16)} {
				l = append(l, api.Key{Height: height, ID: id, Root: root})
			}
		}
	}
	for number := range 20 {
		l = append(l, api.Key{Height: number % 9, ID: sample(int64(10+number), 16), Root: sample(int64(30+number), 16)})
	}
	return l
}

// keys returns all keys that have no error.
func keys(t *testing.T) []api.Key {
	t.Helper()
	return append(treeKeys(t), ownKeys()...)
}

// badKeys returns keys that merkle.Check refuses: with a Height, an ID and a Root out of bounds, alone and together.
func badKeys() []api.Key {
	var l []api.Key
	heights := []int{0, 3, 8, -1, -8, 9, 16, 255, 256, 258, 264, 1 << 16, 1<<32 + 3, -1 << 63, 1<<63 - 1, -256, -248}
	parts := []string{fill(1, 16), "", "a", fill(0, 15), fill(0, 17), fill(0xff, 32), count(0, 8), sample(3, 1000)}
	for _, height := range heights {
		for _, id := range parts {
			for _, root := range parts {
				if k := (api.Key{Height: height, ID: id, Root: root}); !valid(k) {
					l = append(l, k)
				}
			}
		}
	}
	return append(l, api.Key{}, api.Key{Height: 9})
}
