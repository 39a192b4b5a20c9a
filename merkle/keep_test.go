package merkle_test

import (
	"testing"

	"certpath/api"
	"certpath/merkle"
)

// TestKeep: R3, what a tree returned is not changed by later calls, of that tree and of others.
func TestKeep(t *testing.T) {
	type results struct {
		key                     api.Key
		leaves                  int
		first, again, last, any string
	}
	var before []results
	for _, p := range plans() {
		tree := generate(t, p)
		last := tree.Leaves() - 1
		before = append(before, results{tree.Key(), tree.Leaves(), sign(t, tree, 0, "a message"), sign(t, tree, 0, "another one"), sign(t, tree, last, "a message"), sign(t, tree, last/2, "")})
	}
	for i, p := range plans() {
		m, r := modelTree(p.seed, p.height), before[i]
		last := 1<<p.height - 1
		want := results{m.key(), last + 1, m.sign(0, "a message"), m.sign(0, "another one"), m.sign(last, "a message"), m.sign(last/2, "")}
		if r != want {
			t.Errorf("%x, height %d: the results are %x, want %x", p.seed, p.height, r, want)
		}
	}
}

// TestAgain: P12.2, the same arguments always lead to the same signature: in any order, after calls with errors, with a new tree and with a copy.
func TestAgain(t *testing.T) {
	for _, p := range plans() {
		tree := generate(t, p)
		type call struct {
			leaf    int
			message string
		}
		signatures := map[call]string{}
		for leaf := range min(tree.Leaves(), 16) {
			for _, message := range messages()[:4] {
				signatures[call{leaf, message}] = sign(t, tree, leaf, message)
			}
		}
		second, key := generate(t, p), tree.Key()
		copied := *tree
		for c, want := range signatures {
			tree.Sign(-1, c.message)
			tree.Sign(tree.Leaves(), c.message)
			for _, other := range []*merkle.Tree{tree, second, &copied} {
				if got := sign(t, other, c.leaf, c.message); got != want {
					t.Errorf("height %d: Sign(%d, %x) is %x, and then %x", p.height, c.leaf, c.message, want, got)
				}
				if other.Key() != key || other.Leaves() != 1<<p.height {
					t.Errorf("height %d: the key is %x, and then %x", p.height, key, other.Key())
				}
			}
		}
	}
}

// TestKeyCopy: R3, a key that was returned can be changed, and the tree stays as it is.
func TestKeyCopy(t *testing.T) {
	p := plan{sample(40, seedSize), 3}
	tree, m := generate(t, p), modelTree(p.seed, p.height)
	k := tree.Key()
	k.Height, k.ID, k.Root = 1, "", fill(0, 16)
	if tree.Key() != m.key() || tree.Leaves() != 8 {
		t.Errorf("the key is %x after a change of another one", tree.Key())
	}
	checkSign(t, tree, m, 5, "a message")
}

// TestIndependent: R5, two trees do not disturb each other, also if one is overwritten by another one.
func TestIndependent(t *testing.T) {
	p, q := plan{sample(41, seedSize), 3}, plan{sample(42, seedSize), 2}
	tree, other := generate(t, p), generate(t, q)
	kept := *tree
	*tree = *other
	checkSign(t, tree, modelTree(q.seed, q.height), 3, "a message")
	checkSign(t, &kept, modelTree(p.seed, p.height), 7, "a message")
	*tree = merkle.Tree{}
	if _, err := tree.Sign(0, ""); err != api.ErrKey || tree.Leaves() != 0 || tree.Key() != (api.Key{}) {
		t.Errorf("a tree that was set to zero has the key %x", tree.Key())
	}
	checkSign(t, other, modelTree(q.seed, q.height), 0, "a message")
}

// TestAtOnce: R4 and R5, calls at the same time do not disturb each other.
func TestAtOnce(t *testing.T) {
	p := plan{sample(43, seedSize), 3}
	tree, m := generate(t, p), modelTree(p.seed, p.height)
	type answer struct {
		leaf      int
		signature string
		err       api.Errno
	}
	answers := make(chan answer)
	for leaf := range tree.Leaves() {
		go func() {
			signature, _ := tree.Sign(leaf, "a message")
			answers <- answer{leaf, signature, merkle.Verify(tree.Key(), "a message", signature)}
		}()
	}
	for range tree.Leaves() {
		a := <-answers
		if want := m.sign(a.leaf, "a message"); a.signature != want || a.err != api.OK {
			t.Errorf("Sign(%d, ..) is %x, want %x; Verify is %d", a.leaf, a.signature, want, a.err)
		}
	}
}
