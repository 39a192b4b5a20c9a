package signer_test

import (
	"testing"

	"certpath/api"
	"certpath/signer"
)

// TestKeep: R3, what a signer returned is not changed by later calls, of that signer and of others.
func TestKeep(t *testing.T) {
	type results struct {
		key              api.Key
		next, left       int
		save, sign, last string
	}
	var before []results
	for _, p := range plans() {
		s := start(t, p, 0).s
		r := results{key: s.Key(), next: s.Next(), left: s.Left(), save: s.Save()}
		r.sign, _ = s.Sign("a message")
		s.Skip(s.Left() - 1)
		r.last, _ = s.Sign("another one")
		before = append(before, r)
	}
	for i, p := range plans() {
		want := results{key: tree(t, p).Key(), left: p.leaves(), save: saved(p, 0)}
		want.sign, _ = tree(t, p).Sign(0, "a message")
		if p.height > 0 {
			want.last, _ = tree(t, p).Sign(p.leaves()-1, "another one")
		}
		if before[i] != want {
			t.Errorf("%x, height %d: the results are %x, want %x", p.seed, p.height, before[i], want)
		}
	}
}

// TestKeyCopy: R3, a key that was returned can be changed, and the signer stays as it is.
func TestKeyCopy(t *testing.T) {
	u := start(t, plan{sample(50, seedSize), 3}, 2)
	k := u.s.Key()
	k.Height, k.ID, k.Root = 1, "", fill(0, 16)
	u.check(t)
	u.sign(t, "a message")
}

// TestErrorsChangeNothing: R5, calls with errors, and those of other methods that only tell something.
func TestErrorsChangeNothing(t *testing.T) {
	for _, p := range plans()[:4] {
		for _, next := range p.nexts() {
			u := start(t, p, next)
			for range 3 {
				u.s.Key()
				u.s.Next()
				u.s.Left()
				u.s.Save()
				u.s.Fork()
				u.s.Skip(0)
				u.s.Skip(-1)
				signer.Load("")
				signer.At(p.seed, p.height, -1)
				signer.New("", p.height)
				u.check(t)
			}
			f := u.fork(t)
			f.drain(t)
			f.sign(t, "a message")
			u.sign(t, "a message")
		}
	}
}

// TestAgain: R4, two signers to which the same happens return the same, whatever happens to others.
func TestAgain(t *testing.T) {
	for _, p := range plans()[:5] {
		u, v := start(t, p, 0), start(t, p, 0)
		other := start(t, plan{sample(51, seedSize), 5}, 0)
		for i := range p.leaves() + 2 {
			other.sign(t, "another one")
			a := u.sign(t, messages()[i%len(messages())])
			other.skip(t, 1)
			b := v.sign(t, messages()[i%len(messages())])
			if a != b {
				t.Errorf("height %d: the signatures %d are %x and %x", p.height, i, a, b)
			}
			u.skip(t, i%2)
			v.skip(t, i%2)
		}
	}
}

// TestIndependent: R5, two signers that were made alike do not move each other.
func TestIndependent(t *testing.T) {
	p := plan{sample(52, seedSize), 3}
	u, v := start(t, p, 1), start(t, p, 1)
	u.sign(t, "a message")
	v.check(t)
	v.skip(t, 5)
	u.check(t)
	u.drain(t)
	v.check(t)
	v.drain(t)
}

// TestAtOnce: R4 and R5, forks that sign at the same time do not disturb each other.
func TestAtOnce(t *testing.T) {
	p := plan{sample(53, seedSize), 4}
	u := start(t, p, 0)
	type answer struct {
		leaf      int
		signature string
	}
	answers := make(chan answer)
	for leaf := range p.leaves() {
		f := u.fork(t)
		go func() {
			f.s.Skip(leaf)
			signature, _ := f.s.Sign("a message")
			answers <- answer{leaf, signature}
		}()
	}
	for range p.leaves() {
		a := <-answers
		if want, err := tree(t, p).Sign(a.leaf, "a message"); a.signature != want || err != api.OK {
			t.Errorf("the signature with the leaf %d is %x, want %x", a.leaf, a.signature, want)
		}
	}
	u.check(t)
}
