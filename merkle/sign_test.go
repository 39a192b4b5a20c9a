package merkle_test

import (
	"math"
	"testing"

	"certpath/api"
	"certpath/hash"
	"certpath/merkle"
	"certpath/ots"
)

// TestSign: P12.2 and P12.4, every leaf of every tree.
func TestSign(t *testing.T) {
	for _, p := range plans() {
		tree, m := generate(t, p), modelTree(p.seed, p.height)
		for leaf := range tree.Leaves() {
			message := messages()[leaf%len(messages())]
			signature := checkSign(t, tree, m, leaf, message)
			if err := checkVerify(t, tree.Key(), message, signature); err != api.OK {
				t.Errorf("%x, height %d: the signature of %x with the leaf %d has the error %d", p.seed, p.height, message, leaf, err)
			}
		}
	}
}

// TestSignMessages: P12.2 and P12.4, every message with the first, the last and another leaf.
func TestSignMessages(t *testing.T) {
	for _, p := range plans() {
		tree, m := generate(t, p), modelTree(p.seed, p.height)
		last := tree.Leaves() - 1
		for _, leaf := range []int{0, last, last / 3} {
			for _, message := range messages() {
				signature := checkSign(t, tree, m, leaf, message)
				if err := checkVerify(t, tree.Key(), message, signature); err != api.OK {
					t.Errorf("%x, height %d: the signature of %x with the leaf %d has the error %d", p.seed, p.height, message, leaf, err)
				}
			}
		}
	}
}

// TestSignLengths: P12.2 and P12.4, messages of every length about the ends of blocks, and a long one.
func TestSignLengths(t *testing.T) {
	p := plan{sample(11, seedSize), 2}
	tree, m := generate(t, p), modelTree(p.seed, p.height)
	for n := range 200 {
		message := sample(int64(n), n)
		checkVerify(t, tree.Key(), message, checkSign(t, tree, m, n%4, message))
	}
	long := sample(12, 1<<20)
	if err := checkVerify(t, tree.Key(), long, checkSign(t, tree, m, 3, long)); err != api.OK {
		t.Errorf("the signature of a long message has the error %d", err)
	}
}

// TestSignParts: P12.2, the parts of a signature, one by one; the siblings are those of the way that the chapter's words lead, up from the leaf.
func TestSignParts(t *testing.T) {
	for _, p := range plans() {
		tree, m := generate(t, p), modelTree(p.seed, p.height)
		k := tree.Key()
		for leaf := range tree.Leaves() {
			signature := sign(t, tree, leaf, "a message")
			if len(signature) != 4+oneTimeSize+digestSize*p.height {
				t.Fatalf("a signature with the height %d has %d bytes", p.height, len(signature))
			}
			if signature[:4] != b4(leaf) {
				t.Errorf("height %d: the signature with the leaf %d begins with %x", p.height, leaf, signature[:4])
			}
			digest := hash.Short("M", k.ID, k.Root, b4(leaf), "a message")
			want, err := ots.Sign(k.ID, p.seed, leaf, digest)
			if signature[4:564] != want || err != api.OK {
				t.Errorf("height %d, leaf %d: the one-time signature is %x, want %x", p.height, leaf, signature[4:564], want)
			}
			first, nodes := 0, tree.Leaves() // the leaves below the node on the way
			for level := p.height - 1; level >= 0; level-- {
				nodes /= 2
				sibling := first/nodes + 1
				if leaf >= first+nodes {
					sibling = first / nodes
					first += nodes
				}
				if got := signature[564+16*level:][:16]; got != m.node(level, sibling) {
					t.Errorf("height %d, leaf %d: the sibling of level %d is %x, want node %d", p.height, leaf, level, got, sibling)
				}
			}
		}
	}
}

// TestSignTwo: P12.2, the example of the chapter, a signature with the height 2, and all four of them written out.
func TestSignTwo(t *testing.T) {
	p := plan{count(0, seedSize), 2}
	tree, m := generate(t, p), modelTree(p.seed, p.height)
	for leaf, siblings := range []string{m.node(0, 1) + m.node(1, 1), m.node(0, 0) + m.node(1, 1), m.node(0, 3) + m.node(1, 0), m.node(0, 2) + m.node(1, 0)} {
		signature := sign(t, tree, leaf, "")
		if len(signature) != 596 || signature[564:] != siblings {
			t.Errorf("the signature with the leaf %d is %x, with %d bytes", leaf, signature, len(signature))
		}
	}
}

// TestSignDiffers: P12.2, the leaf, the message, the id and the root all count for the digest.
func TestSignDiffers(t *testing.T) {
	seen := map[string]bool{}
	n := 0
	for _, p := range plans() {
		tree := generate(t, p)
		for leaf := range min(tree.Leaves(), 8) {
			for _, message := range messages() {
				seen[sign(t, tree, leaf, message)[4:564]] = true
				n++
			}
		}
	}
	if len(seen) != n {
		t.Errorf("%d signatures of %d are different", len(seen), n)
	}
}

// TestSignRange: P12.2, leaves that a tree does not have.
func TestSignRange(t *testing.T) {
	for _, p := range plans() {
		tree := generate(t, p)
		n := tree.Leaves()
		for _, leaf := range []int{-1, n, n + 1, -n, -n - 1, 2 * n, 1000 * n, 256, 257, 1 << 16, 1 << 31, 1<<32 - 1, 1 << 32, 1<<32 + 1, -1 << 31, -1 << 32, math.MinInt, math.MinInt + 1, math.MaxInt - 1, math.MaxInt} {
			for _, message := range []string{"", "a message"} {
				if signature, err := tree.Sign(leaf, message); signature != "" || err != api.ErrRange {
					t.Errorf("height %d: Sign(%d, %q) is %x, %d", p.height, leaf, message, signature, err)
				}
			}
		}
	}
}

// TestLeaf: P12.3, the number that the first four bytes are.
func TestLeaf(t *testing.T) {
	for _, k := range []struct {
		signature string
		leaf      int
		ok        bool
	}{
		{"", 0, false},
		{"\x01", 0, false},
		{"\x00\x01", 0, false},
		{"\x00\x00\x01", 0, false},
		{"\xff\xff\xff", 0, false},
		{"éa", 0, false}, // three bytes
		{"\x00\x00\x00\x00", 0, true},
		{"\x00\x00\x00\x01", 1, true},
		{"\x00\x00\x00\xff", 255, true},
		{"\x00\x00\x01\x00", 256, true},
		{"\x00\x01\x00\x00", 1 << 16, true},
		{"\x01\x00\x00\x00", 1 << 24, true},
		{"\x01\x02\x03\x04", 0x01020304, true},
		{"\x7f\xff\xff\xff", 1<<31 - 1, true},
		{"\x80\x00\x00\x00", 1 << 31, true},
		{"\xff\xff\xff\xff", 1<<32 - 1, true},
		{"\xfe\xdc\xba\x98", 0xfedcba98, true},
		{"\x01\x02\x03\x04\x05", 0x01020304, true},
		{"\x00\x00\x00\x07" + fill(0xff, 100000), 7, true},
	} {
		if leaf, ok := merkle.Leaf(k.signature); leaf != k.leaf || ok != k.ok {
			t.Errorf("Leaf(%x) is %d, %t, want %d, %t", k.signature, leaf, ok, k.leaf, k.ok)
		}
	}
	for at := range 4 {
		for c := range 256 {
			want := c << (24 - 8*at)
			if leaf, ok := merkle.Leaf(replace(fill(0, 600), at, byte(c))); leaf != want || !ok {
				t.Errorf("Leaf is %d, %t, want %d", leaf, ok, want)
			}
		}
	}
}
