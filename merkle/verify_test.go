package merkle_test

import (
	"math"
	"testing"

	"certpath/api"
	"certpath/hash"
	"certpath/merkle"
	"certpath/ots"
)

// TestChangedByte: P12.3 and P12.4, a signature of which a byte is changed: Verify returns what the steps give, which is ErrSignature.
func TestChangedByte(t *testing.T) {
	for i, p := range []plan{{sample(20, 32), 0}, {sample(21, 32), 1}, {sample(22, 32), 2}, {sample(23, 32), 5}, {sample(24, 32), 8}} {
		tree := generate(t, p)
		leaf := (7 * i) % tree.Leaves()
		signature := sign(t, tree, leaf, "a message")
		for at := range signature {
			changed := replace(signature, at, signature[at]^1<<(at%8))
			if checkVerify(t, tree.Key(), "a message", changed) != api.ErrSignature {
				t.Errorf("height %d: the byte %d of the signature does not count", p.height, at)
			}
		}
	}
}

// TestChangedLeaf: P12.3 and P12.4, a signature with any other leaf.
func TestChangedLeaf(t *testing.T) {
	for height := range 4 {
		tree := generate(t, plan{sample(25, 32), height})
		for leaf := range tree.Leaves() {
			signature := sign(t, tree, leaf, "a message")
			for other := range 300 {
				err := checkVerify(t, tree.Key(), "a message", b4(other)+signature[4:])
				if (err == api.OK) != (other == leaf) {
					t.Errorf("height %d: the signature with the leaf %d, said to be one with %d, has the error %d", height, leaf, other, err)
				}
			}
			for bit := range 32 {
				other := leaf ^ 1<<bit
				if checkVerify(t, tree.Key(), "a message", b4(other)+signature[4:]) != api.ErrSignature {
					t.Errorf("height %d: the signature with the leaf %d is one with the leaf %d", height, leaf, other)
				}
			}
		}
	}
}

// TestExchanged: P12.3 and P12.4, signatures with parts of others, or in another order.
func TestExchanged(t *testing.T) {
	tree := generate(t, plan{sample(26, 32), 3})
	k := tree.Key()
	a, b := sign(t, tree, 2, "a message"), sign(t, tree, 5, "a message")
	for _, changed := range []string{
		b[:4] + a[4:], a[:4] + b[4:564] + a[564:], a[:564] + b[564:],
		a[:564] + a[580:596] + a[564:580] + a[596:], a[:564] + a[564:580] + a[596:] + a[580:596], a[:564] + a[596:] + a[580:596] + a[564:580],
		a[564:] + a[:564], a[4:564] + a[:4] + a[564:], a[:4] + a[564:] + a[4:564], "\x02\x00\x00\x00" + a[4:],
	} {
		if checkVerify(t, k, "a message", changed) != api.ErrSignature {
			t.Errorf("%x verifies", changed)
		}
	}
	if checkVerify(t, k, "a message", a) != api.OK || checkVerify(t, k, "a message", b) != api.OK {
		t.Errorf("the signatures do not verify")
	}
}

// TestOtherMessage: P12.3 and P12.4, the signature of one message with another one.
func TestOtherMessage(t *testing.T) {
	tree := generate(t, plan{sample(27, 32), 2})
	all := append(messages(), "a Message", "a messag", "a message ", "a message\x00", " a message")
	for i, message := range all {
		signature := sign(t, tree, i%4, message)
		for _, other := range all {
			if err := checkVerify(t, tree.Key(), other, signature); (err == api.OK) != (other == message) {
				t.Errorf("the signature of %x has with %x the error %d", message, other, err)
			}
		}
	}
}

// TestOtherKey: P12.3 and P12.4, a signature with another key: of another seed, of another height, or with a changed byte.
func TestOtherKey(t *testing.T) {
	var keys []api.Key
	var trees []*merkle.Tree
	for _, seed := range []string{sample(28, 32), sample(29, 32)} {
		for height := range 4 {
			tree := generate(t, plan{seed, height})
			keys, trees = append(keys, tree.Key()), append(trees, tree)
		}
	}
	for i, tree := range trees {
		signature := sign(t, tree, 0, "a message")
		for j, k := range keys {
			if err := checkVerify(t, k, "a message", signature); (err == api.OK) != (i == j) {
				t.Errorf("the signature of the tree %d has with the key %d the error %d", i, j, err)
			}
		}
		k := keys[i]
		for at := range digestSize {
			id, root := k, k
			id.ID = replace(k.ID, at, k.ID[at]^1)
			root.Root = replace(k.Root, at, k.Root[at]^0x80)
			for _, other := range []api.Key{id, root, {Height: k.Height, ID: k.Root, Root: k.ID}} {
				if checkVerify(t, other, "a message", signature) != api.ErrSignature {
					t.Errorf("the signature of the tree %d verifies with the key %x", i, other)
				}
			}
		}
	}
}

// TestOtherHeight: P12.3, a key whose height alone is another one, with the signature as it is, or cut or filled to the size for it.
func TestOtherHeight(t *testing.T) {
	for height := range maxHeight + 1 {
		tree := generate(t, plan{sample(30, 32), height})
		signature := sign(t, tree, 0, "a message")
		for other := range maxHeight + 1 {
			k := tree.Key()
			k.Height = other
			filled := (signature + sample(31, 16*maxHeight))[:564+16*other]
			for _, s := range []string{signature, filled} {
				if err := checkVerify(t, k, "a message", s); (err == api.OK) != (other == height) {
					t.Errorf("the signature of a tree with the height %d has with the height %d the error %d", height, other, err)
				}
			}
		}
	}
}

// forge returns a key and a signature of a message that leads to its root, by any siblings, with any leaf that has a one-time key.
func forge(t *testing.T, id, seed string, leaf int, message, siblings string) (api.Key, string) {
	t.Helper()
	public, err1 := ots.Public(id, seed, leaf)
	k := api.Key{Height: len(siblings) / 16, ID: id, Root: modelRoot(id, leaf, public, siblings)}
	signature, err2 := ots.Sign(id, seed, leaf, modelDigest(k, leaf, message))
	if err1 != api.OK || err2 != api.OK {
		t.Fatalf("the errors are %d and %d", err1, err2)
	}
	return k, b4(leaf) + signature + siblings
}

// TestAnySiblings: P12.3, keys that no seed has: a signature verifies if it leads to the root, whatever the id and the siblings are.
func TestAnySiblings(t *testing.T) {
	for height := range maxHeight + 1 {
		for leaf := 0; leaf < 1<<height; leaf += 1 + height {
			for _, id := range []string{fill(0, 16), sample(int64(leaf), 16)} {
				for _, siblings := range []string{fill(0, 16*height), sample(int64(height), 16*height)} {
					k, signature := forge(t, id, sample(32, 32), leaf, "a message", siblings)
					if err := checkVerify(t, k, "a message", signature); err != api.OK {
						t.Errorf("height %d, leaf %d: the error is %d", height, leaf, err)
					}
				}
			}
		}
	}
}

// TestGreatLeaf: P12.3, signatures that lead to the root, but whose leaf is 2^Height or more.
func TestGreatLeaf(t *testing.T) {
	for height := range maxHeight {
		n := 1 << height
		for _, leaf := range []int{n, n + 1, 2*n - 1, 128, 254, 255} {
			k, signature := forge(t, sample(33, 16), sample(34, 32), max(leaf, n), "a message", sample(35, 16*height))
			if err := merkle.Verify(k, "a message", signature); err != api.ErrSignature {
				t.Errorf("height %d, leaf %d: the error is %d", height, leaf, err)
			}
		}
	}
	for height := range maxHeight + 1 {
		tree := generate(t, plan{sample(36, 32), height})
		signature := sign(t, tree, 0, "a message")
		for _, leaf := range []int{1 << height, 256, 257, 1 << 8 << height, 1 << 16, 1 << 24, 1 << 31, 1<<32 - 1<<height, 1<<32 - 1} {
			if err := checkVerify(t, tree.Key(), "a message", b4(leaf)+signature[4:]); err != api.ErrSignature {
				t.Errorf("height %d, leaf %d: the error is %d", height, leaf, err)
			}
		}
	}
}

// TestSignatureSize: P12.3, signatures of every length.
func TestSignatureSize(t *testing.T) {
	for _, height := range []int{0, 1, 2, 8} {
		tree := generate(t, plan{sample(37, 32), height})
		k := tree.Key()
		signature := sign(t, tree, 0, "")
		for n := range 800 {
			s := (signature + fill(0, 800))[:n]
			if err := checkVerify(t, k, "", s); (err == api.OK) != (n == 564+16*height) {
				t.Errorf("height %d: the error of %d bytes is %d", height, n, err)
			}
		}
		for _, s := range []string{"", "\x00", "\x00\x00\x00", signature[:len(signature)-1], signature + "\x00", signature[1:], "\x00" + signature, signature + signature, signature + fill(0, 1<<20)} {
			if err := merkle.Verify(k, "", s); err != api.ErrSignature {
				t.Errorf("height %d: the error of %d bytes is %d", height, len(s), err)
			}
		}
	}
}

// badHeights are not those of a key.
func badHeights() []int {
	return []int{-1, 9, -2, -8, 10, 16, 63, 64, 255, 256, 256 + 2, 1 << 31, 1<<32 + 2, -1 << 31, -1 << 32, math.MinInt, math.MinInt + 1, math.MinInt / 16, math.MaxInt / 16, math.MaxInt - 1, math.MaxInt}
}

// badDigests do not have the size of an id or of a root.
func badDigests() []string {
	return []string{"", count(0, 1), count(0, 15), count(0, 17), count(0, 32), fill(0, 100000), "éééééééééééééééé"}
}

// TestCheck: P12.3, keys of which the height, the id or the root is out of bounds, alone and together.
func TestCheck(t *testing.T) {
	heights := append([]int{0, 1, 2, 3, 4, 5, 6, 7, 8}, badHeights()...)
	digests := append([]string{count(0, 16), fill(0, 16), fill(0xff, 16), "éééééééé"}, badDigests()...)
	for i, height := range heights {
		for j, id := range digests {
			for n, root := range digests {
				k := api.Key{Height: height, ID: id, Root: root}
				want := api.ErrKey
				if i <= maxHeight && j < 4 && n < 4 {
					want = api.OK
				}
				if err := merkle.Check(k); err != want || err != modelCheck(k) {
					t.Errorf("Check of the height %d, %d and %d bytes is %d, want %d", height, len(id), len(root), err, want)
				}
			}
		}
	}
	if err := merkle.Check(api.Key{}); err != api.ErrKey {
		t.Errorf("Check of a zero key is %d", err)
	}
	for _, p := range plans() {
		if err := merkle.Check(generate(t, p).Key()); err != api.OK {
			t.Errorf("the key of %x with the height %d has the error %d", p.seed, p.height, err)
		}
	}
}

// TestVerifyKey: P12.3, the errors of Check come first, with signatures that verify and with all that do not.
func TestVerifyKey(t *testing.T) {
	tree := generate(t, plan{sample(38, 32), 2})
	k, signature := tree.Key(), sign(t, tree, 1, "a message")
	heights := append([]int{2}, badHeights()...)
	ids := append([]string{k.ID}, badDigests()...)
	roots := append([]string{k.Root}, badDigests()...)
	signatures := []string{signature, "", "\x00\x00", signature[:595], signature + "\x00", sample(39, 596), b4(4) + signature[4:], b4(256) + signature[4:], replace(signature, 100, signature[100]^1)}
	for i, height := range heights {
		for j, id := range ids {
			for n, root := range roots {
				for m, s := range signatures {
					want := api.OK
					switch {
					case i > 0 || j > 0 || n > 0:
						want = api.ErrKey
					case m > 0:
						want = api.ErrSignature
					}
					key := api.Key{Height: height, ID: id, Root: root}
					if err := merkle.Verify(key, "a message", s); err != want {
						t.Errorf("the error of the height %d, %d and %d bytes, and the signature %d is %d, want %d", height, len(id), len(root), m, err, want)
					}
				}
			}
		}
	}
	for _, s := range signatures {
		for _, message := range messages() {
			if err := merkle.Verify(api.Key{}, message, s); err != api.ErrKey {
				t.Errorf("Verify with a zero key is %d", err)
			}
		}
	}
}

// TestVerifyAny: P12.3, keys and signatures that nobody made.
func TestVerifyAny(t *testing.T) {
	for i := range int64(500) {
		height := int(i) % (maxHeight + 1)
		k := api.Key{Height: height, ID: sample(i, 16), Root: hash.Short(sample(i, 3))}
		signature := b4(int(i)%(1<<height)) + sample(1000+i, 560+16*height)
		if err := checkVerify(t, k, sample(i, int(i)), signature); err != api.ErrSignature {
			t.Errorf("%d: the error is %d", i, err)
		}
	}
}
