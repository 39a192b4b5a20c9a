package merkle_test

import (
	"math"
	"testing"

	"certpath/api"
	"certpath/hash"
	"certpath/merkle"
	"certpath/ots"
)

// TestKnown: P12.1 to P12.3, values that were reckoned by another program, with the SHA-256 of Python.
func TestKnown(t *testing.T) {
	for _, k := range []struct {
		seed         string
		height, leaf int
		message      string
		id, root     string
		digest       string
		sum          string // of the signature
	}{
		{count(0, 32), 0, 0, "", "8857b947c657b1520709084a05de95c6", "dd4169f30823a1bfbf74a5b5554adc6c", "fb4a87bd0b7455315685a86a876149cf", "d417c34fe2e474ea87a2882daf37a6c99aaedc724e4bb8c1ea762dada93815ad"},
		{count(0, 32), 1, 1, "a message", "8857b947c657b1520709084a05de95c6", "9ed45f5c0c89f0f5a9cdcb048cfa9645", "6a5584866350fb9e5a091128344238ef", "4581a8e89471369f40fd45f6d839415b996a362dfe2f8907dc77f9519e87f4ce"},
		{count(0, 32), 2, 2, "a message", "8857b947c657b1520709084a05de95c6", "6e55fcf2eb88e5899d59c0f999b5bf43", "2fcfad8c188de5012f79c9f03eab5a7a", "35fbadfcd3e45c5138652ec310aea922c701cf499487bd46e1bcd72f4b3c57cf"},
		{fill(0, 32), 3, 0, "", "22b5ed82e367e006a9444d62149c6c08", "81720ead8ae09bd1ce6521825c2a3f42", "058ba7a0ef18bfde76ccf99bfd5d21d5", "45c9beed184391c821e944ac1bf794471d3bed6b1d37fac35db335ff688a0e43"},
		{fill(0xff, 32), 5, 19, fill(0xff, 1000), "177a538607c45a53eed7c65448315051", "0e120c92cbaccc343e3a89ebdfc2a889", "e1cbe1fb75638e2534b35267d3f38b09", "9f360e86784ec537fbd3007e9446381412b2a6247469d4e646dde1f790640ca6"},
		{count(0xe0, 32), 8, 0, "\x00", "4fa97e9d2168cea9f311221886ab9e02", "f2296ad4bafa03dd61c1dbfbed89e724", "2ed902fc3a40c4330c465ce9296d3f7d", "0cbec9373689633db77efe77eeea6e2caaf09bc6a4afb49a21aa8ef57ebb8620"},
		{count(0xe0, 32), 8, 255, "certificate", "4fa97e9d2168cea9f311221886ab9e02", "f2296ad4bafa03dd61c1dbfbed89e724", "f1e9d6c02b6cbf4631c15e4ee3b06cae", "fc035b7661be2982b87c9bf334983ad369074eadd46f22ef633d1816deba9e5e"},
		{count(0xe0, 32), 8, 170, "certificate", "4fa97e9d2168cea9f311221886ab9e02", "f2296ad4bafa03dd61c1dbfbed89e724", "6363d03fc501a38e73c0be61be11b7df", "9f954952f60bf2edef440cb48250db4b90986c47665bfba8dd5c0d8e81cdb600"},
	} {
		tree := generate(t, plan{k.seed, k.height})
		key := tree.Key()
		if key.Height != k.height || hash.Hex(key.ID) != k.id || hash.Hex(key.Root) != k.root {
			t.Errorf("%x, height %d: the key is %x", k.seed, k.height, key)
		}
		signature := sign(t, tree, k.leaf, k.message)
		if hash.Hex(hash.Sum(signature)) != k.sum {
			t.Errorf("%x, height %d: Sign(%d, ..) is %x", k.seed, k.height, k.leaf, signature)
		}
		if leaf, ok := merkle.Leaf(signature); leaf != k.leaf || !ok {
			t.Errorf("%x, height %d: the leaf is %d, %t, want %d", k.seed, k.height, leaf, ok, k.leaf)
		}
		if err := merkle.Verify(key, k.message, signature); err != api.OK {
			t.Errorf("%x, height %d: Verify has the error %d", k.seed, k.height, err)
		}
		digest, ok := hash.Unhex(k.digest)
		public, err := ots.Recover(key.ID, k.leaf, digest, signature[4:564])
		if want, err2 := ots.Public(key.ID, k.seed, k.leaf); public != want || !ok || err != api.OK || err2 != api.OK {
			t.Errorf("%x, height %d: the one-time signature is not one of the digest %s", k.seed, k.height, k.digest)
		}
	}
}

// TestKey: P12.1, every height, and several seeds.
func TestKey(t *testing.T) {
	for _, p := range plans() {
		tree := generate(t, p)
		if got, want := tree.Key(), modelTree(p.seed, p.height).key(); got != want {
			t.Errorf("the key of %x with the height %d is %x, want %x", p.seed, p.height, got, want)
		}
		want := []int{1, 2, 4, 8, 16, 32, 64, 128, 256}[p.height]
		if got := tree.Leaves(); got != want {
			t.Errorf("a tree with the height %d has %d leaves, want %d", p.height, got, want)
		}
	}
}

// TestHeightZero: P12.1, the chapter's example: the root of a tree with one leaf is the public key of the leaf.
func TestHeightZero(t *testing.T) {
	for _, p := range plans() {
		tree := generate(t, plan{p.seed, 0})
		public, err := ots.Public(hash.Short("I", p.seed), p.seed, 0)
		if got := tree.Key(); got != (api.Key{Height: 0, ID: hash.Short("I", p.seed), Root: public}) || err != api.OK {
			t.Errorf("the key of %x with the height 0 is %x, want the root %x", p.seed, got, public)
		}
		if got := tree.Leaves(); got != 1 {
			t.Errorf("a tree with the height 0 has %d leaves", got)
		}
	}
}

// TestSeedBytes: P12.1, every byte of the seed counts, for the id and for the root.
func TestSeedBytes(t *testing.T) {
	ids, roots := map[string]bool{}, map[string]bool{}
	seed := sample(10, seedSize)
	for at := range seedSize {
		p := plan{replace(seed, at, seed[at]^0x10), 1}
		k := generate(t, p).Key()
		if want := modelTree(p.seed, p.height).key(); k != want {
			t.Errorf("the key of %x is %x, want %x", p.seed, k, want)
		}
		ids[k.ID], roots[k.Root] = true, true
	}
	if len(ids) != seedSize || len(roots) != seedSize {
		t.Errorf("%d seeds have %d ids and %d roots", seedSize, len(ids), len(roots))
	}
}

// TestHeights: P12.1, a seed has the same id at all heights, and the nodes of a smaller tree are those of a greater one.
func TestHeights(t *testing.T) {
	p := plans()[0]
	greatest := modelTree(p.seed, maxHeight)
	for height := range maxHeight + 1 {
		k := generate(t, plan{p.seed, height}).Key()
		if k.ID != greatest.id || k.Root != greatest.node(height, 0) {
			t.Errorf("the key with the height %d is %x, want the id %x and the root %x", height, k, greatest.id, greatest.node(height, 0))
		}
	}
}

// TestGenerateErrors: P12.1, each error alone, and both.
func TestGenerateErrors(t *testing.T) {
	seeds := []string{count(0, 32), fill(0, 32), "", count(0, 1), count(0, 16), count(0, 31), count(0, 33), count(0, 64), fill(0, 100000), "éééééééééééééééééééééééééééééééé"}
	heights := []int{0, 2, -1, 9, -2, 10, -8, 16, 31, 32, 63, 64, 255, 256, 256 + 2, 1 << 16, 1 << 31, 1 << 32, 1<<32 + 2, -1 << 31, -1 << 32, math.MinInt, math.MinInt + 1, math.MaxInt - 1, math.MaxInt}
	for i, seed := range seeds {
		for k, height := range heights {
			want := api.OK
			switch {
			case i > 1:
				want = api.ErrKey
			case k > 1:
				want = api.ErrRange
			}
			tree, err := merkle.Generate(seed, height)
			if err != want || (tree == nil) != (want != api.OK) {
				t.Errorf("Generate(%d bytes, %d) has the error %d, want %d; the tree is nil: %t", len(seed), height, err, want, tree == nil)
			}
		}
	}
}

// TestSeedSizes: P12.1, every number of bytes.
func TestSeedSizes(t *testing.T) {
	for n := range 300 {
		tree, err := merkle.Generate(fill('s', n), 0)
		if n == seedSize && (tree == nil || err != api.OK) || n != seedSize && (tree != nil || err != api.ErrKey) {
			t.Errorf("Generate of %d bytes has the error %d; the tree is nil: %t", n, err, tree == nil)
		}
	}
}

// TestNoTree: P12.1, a nil and a zero tree, with each method; what Generate returns together with an error is one.
func TestNoTree(t *testing.T) {
	var zero merkle.Tree
	short, _ := merkle.Generate("short", 1)
	high, _ := merkle.Generate(count(0, 32), 9)
	for what, tree := range map[string]*merkle.Tree{"nil": nil, "zero": &zero, "new": new(merkle.Tree), "of a short seed": short, "of a great height": high} {
		for range 2 {
			if k := tree.Key(); k != (api.Key{}) {
				t.Errorf("the key of the tree %s is %x", what, k)
			}
			if n := tree.Leaves(); n != 0 {
				t.Errorf("the tree %s has %d leaves", what, n)
			}
			for _, leaf := range []int{0, 1, -1, 255, 256, math.MinInt, math.MaxInt} {
				for _, message := range messages() {
					if signature, err := tree.Sign(leaf, message); signature != "" || err != api.ErrKey {
						t.Errorf("Sign(%d, %x) of the tree %s is %x, %d", leaf, message, what, signature, err)
					}
				}
			}
		}
	}
}
