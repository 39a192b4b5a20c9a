package merkle_test

import (
	"encoding/binary"
	"math/rand"
	"strings"
	"testing"

	"certpath/api"
	"certpath/hash"
	"certpath/merkle"
	"certpath/ots"
)

// Sizes that the chapter says, as numbers.
const (
	digestSize  = 16
	seedSize    = 32
	oneTimeSize = 560
	maxHeight   = 8
)

// sample returns n bytes, other ones for each number.
func sample(number int64, n int) string {
	b := make([]byte, n)
	rand.New(rand.NewSource(number)).Read(b)
	return string(b)
}

// fill returns n bytes that are all c.
func fill(c byte, n int) string {
	return strings.Repeat(string([]byte{c}), n)
}

// count returns the n bytes from c on.
func count(c byte, n int) string {
	b := make([]byte, n)
	for i := range b {
		b[i] = c + byte(i)
	}
	return string(b)
}

// replace returns s with another byte at a place.
func replace(s string, at int, c byte) string {
	return s[:at] + string([]byte{c}) + s[at+1:]
}

// b4 is B4 of the chapter.
func b4(n int) string {
	return string(binary.BigEndian.AppendUint32(nil, uint32(n)))
}

// b1 is B1 of the chapter.
func b1(n int) string {
	return string([]byte{byte(n)})
}

// model is a tree by the words of the chapter: its nodes are reckoned from the root down, when they are needed.
type model struct {
	seed   string
	height int
	id     string
	nodes  map[[2]int]string // by the level and the number
}

// modelTree returns the model of a tree.
func modelTree(seed string, height int) *model {
	return &model{seed: seed, height: height, id: hash.Short("I" + seed), nodes: map[[2]int]string{}}
}

// node returns node i of a level.
func (m *model) node(level, i int) string {
	at := [2]int{level, i}
	if m.nodes[at] != "" {
		return m.nodes[at]
	}
	var node string
	if level > 0 {
		node = hash.Short("N" + m.id + b1(level-1) + b4(i) + m.node(level-1, 2*i) + m.node(level-1, 2*i+1))
	} else {
		public, err := ots.Public(m.id, m.seed, i)
		if err != api.OK {
			panic(err)
		}
		node = public
	}
	m.nodes[at] = node
	return node
}

// key returns the public key of the tree.
func (m *model) key() api.Key {
	return api.Key{Height: m.height, ID: m.id, Root: m.node(m.height, 0)}
}

// sign returns the signature of a message with a leaf.
func (m *model) sign(leaf int, message string) string {
	signature, err := ots.Sign(m.id, m.seed, leaf, modelDigest(m.key(), leaf, message))
	if err != api.OK {
		panic(err)
	}
	signature = b4(leaf) + signature
	number := leaf
	for level := range m.height {
		if number%2 == 0 {
			signature += m.node(level, number+1)
		} else {
			signature += m.node(level, number-1)
		}
		number /= 2
	}
	return signature
}

// modelDigest returns the digest of a message for a leaf.
func modelDigest(k api.Key, leaf int, message string) string {
	return hash.Short("M" + k.ID + k.Root + b4(leaf) + message)
}

// modelRoot returns the node at the level of the root that the node of a leaf and the siblings lead to.
func modelRoot(id string, leaf int, node, siblings string) string {
	for level := 0; siblings != ""; level++ {
		pair := node + siblings[:16]
		if leaf%2 == 1 {
			pair = siblings[:16] + node
		}
		leaf /= 2
		node = hash.Short("N" + id + b1(level) + b4(leaf) + pair)
		siblings = siblings[16:]
	}
	return node
}

// modelCheck is Check, by the words of the chapter.
func modelCheck(k api.Key) api.Errno {
	if k.Height < 0 || k.Height > maxHeight || len(k.ID) != digestSize || len(k.Root) != digestSize {
		return api.ErrKey
	}
	return api.OK
}

// modelVerify is Verify, by the words of the chapter.
func modelVerify(k api.Key, message, signature string) api.Errno {
	if err := modelCheck(k); err != api.OK {
		return err
	}
	if len(signature) != 4+35*16+k.Height*16 {
		return api.ErrSignature
	}
	leaf := int(binary.BigEndian.Uint32([]byte(signature)))
	if leaf >= 1<<k.Height {
		return api.ErrSignature
	}
	node, err := ots.Recover(k.ID, leaf, modelDigest(k, leaf, message), signature[4:564])
	if err != api.OK || modelRoot(k.ID, leaf, node, signature[564:]) != k.Root {
		return api.ErrSignature
	}
	return api.OK
}

// plan is what a tree is made from.
type plan struct {
	seed   string
	height int
}

// plans returns seeds with all heights: the first seed has each of them.
func plans() []plan {
	var l []plan
	for height := range maxHeight + 1 {
		l = append(l, plan{count(0, seedSize), height})
	}
	for i, seed := range []string{
		fill(0, seedSize), fill(0xff, seedSize), count(0xe0, seedSize), hash.Sum("seed"), "a seed that consists of letters.", strings.Repeat("é", seedSize/2),
		sample(1, seedSize), sample(2, seedSize), sample(3, seedSize), sample(4, seedSize), sample(5, seedSize), sample(6, seedSize),
	} {
		l = append(l, plan{seed, i % 6})
	}
	return l
}

// messages returns messages of several lengths, that of no bytes first.
func messages() []string {
	return []string{"", "\x00", "a", "a message", "Größe", fill(0, 16), count(0, 16), fill(0xff, 1000), sample(7, 63), sample(8, 64), sample(9, 65)}
}

// generate returns the tree of a plan, which must have no error.
func generate(t *testing.T, p plan) *merkle.Tree {
	t.Helper()
	tree, err := merkle.Generate(p.seed, p.height)
	if tree == nil || err != api.OK {
		t.Fatalf("Generate(%x, %d) has the error %d", p.seed, p.height, err)
	}
	return tree
}

// sign returns a signature, which must have no error.
func sign(t *testing.T, tree *merkle.Tree, leaf int, message string) string {
	t.Helper()
	signature, err := tree.Sign(leaf, message)
	if err != api.OK {
		t.Fatalf("Sign(%d, %x) has the error %d", leaf, message, err)
	}
	return signature
}

// checkSign compares Sign with P12.2, and returns it.
func checkSign(t *testing.T, tree *merkle.Tree, m *model, leaf int, message string) string {
	t.Helper()
	signature, err := tree.Sign(leaf, message)
	if want := m.sign(leaf, message); signature != want || err != api.OK {
		t.Errorf("height %d: Sign(%d, %x) is %x, %d, want %x", m.height, leaf, message, signature, err, want)
	}
	return signature
}

// checkVerify compares Verify with P12.3, and returns it.
func checkVerify(t *testing.T, k api.Key, message, signature string) api.Errno {
	t.Helper()
	err := merkle.Verify(k, message, signature)
	if want := modelVerify(k, message, signature); err != want {
		t.Errorf("Verify(%x, %x, %x) is %d, want %d", k, message, signature, err, want)
	}
	return err
}
