package signer_test

import (
	"math/rand"
	"testing"

	"certpath/api"
	"certpath/merkle"
	"certpath/signer"
)

// guarded is a signer with the greatest Next that was saved of it, or that it was loaded from.
type guarded struct {
	*subject
	floor int
}

// sign signs a message if a leaf is left, and compares the leaf with the floor.
func (g *guarded) sign(t *testing.T, message string) {
	t.Helper()
	signature := g.subject.sign(t, message)
	if signature == "" {
		return
	}
	leaf, ok := merkle.Leaf(signature)
	if leaf < g.floor || !ok {
		t.Errorf("height %d: a signature with the leaf %d after %d was saved", g.p.height, leaf, g.floor)
	}
	if err := merkle.Verify(g.s.Key(), message, signature); err != api.OK {
		t.Errorf("height %d: the signature with the leaf %d does not verify: %d", g.p.height, leaf, err)
	}
}

// state is what a signer saved, and its Next at that time.
type state struct {
	b    string
	next int
}

// save returns what a signer saves, which raises its floor.
func (g *guarded) save() state {
	g.floor = g.s.Next()
	return state{g.s.Save(), g.floor}
}

// restore returns the signer that is loaded from a state.
func restore(t *testing.T, p plan, b state) *guarded {
	t.Helper()
	s, err := signer.Load(b.b)
	if s == nil || err != api.OK {
		t.Fatalf("Load(%x) has the error %d", b.b, err)
	}
	u := &subject{s, p, b.next}
	u.check(t)
	return &guarded{u, b.next}
}

// TestSequences: P13.5, random sequences of signatures, forks, skips, saves and loads, also of states that were saved long before.
func TestSequences(t *testing.T) {
	for number := range 60 {
		r := rand.New(rand.NewSource(int64(number)))
		p := plan{sample(int64(40+number%3), seedSize), number % 6}
		first := &guarded{start(t, p, 0), 0}
		all, states := []*guarded{first}, []state{first.save()}
		for range 80 {
			g := all[r.Intn(len(all))]
			switch r.Intn(8) {
			case 0, 1, 2:
				g.sign(t, messages()[r.Intn(len(messages()))])
			case 3:
				g.skip(t, r.Intn(5)-1)
			case 4:
				all = append(all, &guarded{g.fork(t), g.floor})
			case 5, 6:
				states = append(states, g.save())
			case 7:
				all = append(all, restore(t, p, states[r.Intn(len(states))]))
			}
		}
		for _, g := range all {
			g.check(t)
		}
	}
}

// TestCrash: P13.5, a signer that saves its state behind a skip, signs within what it has skipped with a fork, and crashes: those that are loaded go on behind it.
func TestCrash(t *testing.T) {
	for _, ahead := range []int{1, 2, 3, 5} {
		p := plan{sample(43, seedSize), 4}
		g := &guarded{start(t, p, 0), 0}
		used := map[int]bool{}
		for g.s.Left() > 0 {
			f := &guarded{g.fork(t), g.floor}
			g.skip(t, ahead)
			b := g.save()
			for range ahead {
				leaf := f.s.Next()
				f.sign(t, "a message")
				if leaf < p.leaves() && used[leaf] {
					t.Errorf("the leaf %d signs twice", leaf)
				}
				used[leaf] = true
			}
			g = restore(t, p, b)
			if g.s.Next() != f.s.Next() {
				t.Errorf("the next leaf is %d, want %d", g.s.Next(), f.s.Next())
			}
		}
	}
}

// TestReload: P13.5, a signer that is loaded again before each signature never signs twice with a leaf, and signs what the one signs that is never saved.
func TestReload(t *testing.T) {
	for _, p := range plans()[:6] {
		u, other := start(t, p, 0), start(t, p, 0)
		for range p.leaves() + 1 {
			u = u.reload(t)
			if a, b := u.sign(t, "a message"), other.sign(t, "a message"); a != b {
				t.Errorf("height %d: the loaded signer signs %x, the other one %x", p.height, a, b)
			}
		}
	}
}
