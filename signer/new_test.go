package signer_test

import (
	"math"
	"testing"

	"certpath/api"
	"certpath/signer"
)

// TestNew: P13.1 and P13.2, every height, and several seeds.
func TestNew(t *testing.T) {
	for _, p := range plans() {
		s, err := signer.New(p.seed, p.height)
		if s == nil || err != api.OK {
			t.Fatalf("New(%x, %d) has the error %d", p.seed, p.height, err)
		}
		u := &subject{s, p, 0}
		u.check(t)
		u.sign(t, "a message")
	}
}

// TestAt: P13.1 and P13.2, the first next leaf, the last one, and the one behind it, and those between them; the first signature is one with it.
func TestAt(t *testing.T) {
	for _, p := range plans() {
		for _, next := range p.nexts() {
			start(t, p, next).sign(t, "a message")
		}
	}
}

// badSeeds do not have the size of a seed.
func badSeeds() []string {
	return []string{"", count(0, 1), count(0, 16), count(0, 31), count(0, 33), count(0, 64), fill(0, 100000), "éééééééééééééééééééééééééééééééé"}
}

// badHeights are not those of a key.
func badHeights() []int {
	return []int{-1, 9, -2, 10, -8, 16, 31, 32, 63, 64, 255, 256, 256 + 2, 1 << 31, 1 << 32, 1<<32 + 2, -1 << 31, -1 << 32, math.MinInt, math.MinInt + 1, math.MaxInt - 1, math.MaxInt}
}

// badNexts cannot be the next leaf of a key of a plan.
func badNexts(p plan) []int {
	n := p.leaves()
	return []int{-1, n + 1, -2, n + 2, -n, 2*n + 1, 257, 1 << 16, 1 << 31, 1<<32 - 1, 1 << 32, 1<<32 + 1, -1 << 31, -1 << 32, math.MinInt, math.MinInt + 1, math.MaxInt - 1, math.MaxInt}
}

// TestNewErrors: P13.1, each error alone, and both.
func TestNewErrors(t *testing.T) {
	seeds := append([]string{count(0, 32), fill(0, 32)}, badSeeds()...)
	heights := append([]int{0, 2}, badHeights()...)
	for i, seed := range seeds {
		for k, height := range heights {
			want := api.OK
			switch {
			case i > 1:
				want = api.ErrKey
			case k > 1:
				want = api.ErrRange
			}
			s, err := signer.New(seed, height)
			if err != want || (s == nil) != (want != api.OK) {
				t.Errorf("New(%d bytes, %d) has the error %d, want %d; the signer is nil: %t", len(seed), height, err, want, s == nil)
			}
		}
	}
}

// TestAtErrors: P13.1, each error alone, and two or three of them: that of the seed is the first one.
func TestAtErrors(t *testing.T) {
	p := plan{count(0, 32), 2}
	seeds := append([]string{p.seed}, badSeeds()...)
	heights := append([]int{p.height}, badHeights()...)
	nexts := append([]int{0, 3, 4}, badNexts(p)...)
	for i, seed := range seeds {
		for j, height := range heights {
			for k, next := range nexts {
				want := api.OK
				switch {
				case i > 0:
					want = api.ErrKey
				case j > 0 || k > 2:
					want = api.ErrRange
				}
				s, err := signer.At(seed, height, next)
				if err != want || (s == nil) != (want != api.OK) {
					t.Errorf("At(%d bytes, %d, %d) has the error %d, want %d; the signer is nil: %t", len(seed), height, next, err, want, s == nil)
				}
			}
		}
	}
}

// TestAtRange: P13.1, next leaves that a key of each height does not have.
func TestAtRange(t *testing.T) {
	for height := range maxHeight + 1 {
		p := plan{sample(10, seedSize), height}
		nexts := badNexts(p)
		if height > 4 {
			nexts = nexts[:4] // for the greater trees take long to make
		}
		for _, next := range nexts {
			if s, err := signer.At(p.seed, height, next); s != nil || err != api.ErrRange {
				t.Errorf("At(.., %d, %d) has the error %d; the signer is nil: %t", height, next, err, s == nil)
			}
		}
	}
}

// TestSeedSizes: P13.1, every number of bytes.
func TestSeedSizes(t *testing.T) {
	for n := range 300 {
		s, err := signer.At(fill('s', n), 0, 1)
		if n == seedSize && (s == nil || err != api.OK) || n != seedSize && (s != nil || err != api.ErrKey) {
			t.Errorf("At of %d bytes has the error %d; the signer is nil: %t", n, err, s == nil)
		}
	}
}

// TestNoSigner: P13.4, a nil and a zero signer, with each method, in any order; what a function returns together with an error is one.
func TestNoSigner(t *testing.T) {
	var zero signer.Signer
	short, _ := signer.New("short", 1)
	high, _ := signer.New(count(0, 32), 9)
	late, _ := signer.At(count(0, 32), 1, 3)
	lost, _ := signer.Load("")
	overwritten := start(t, plan{count(0, 32), 1}, 1).s
	*overwritten = signer.Signer{}
	none := map[string]*signer.Signer{
		"nil": nil, "zero": &zero, "new": new(signer.Signer), "of a short seed": short, "of a great height": high, "of a great next leaf": late, "of nothing": lost,
		"fork of nil": (*signer.Signer)(nil).Fork(), "fork of zero": zero.Fork(), "overwritten": overwritten,
	}
	for what, s := range none {
		for _, n := range []int{0, 1, -1, 255, math.MinInt, math.MaxInt} {
			for _, message := range messages() {
				if signature, err := s.Sign(message); signature != "" || err != api.ErrKey {
					t.Errorf("Sign(%x) of the signer %s is %x, %d", message, what, signature, err)
				}
			}
			if marked := s.Skip(n); marked != 0 {
				t.Errorf("Skip(%d) of the signer %s is %d", n, what, marked)
			}
			if k := s.Key(); k != (api.Key{}) {
				t.Errorf("the key of the signer %s is %x", what, k)
			}
			if s.Next() != 0 || s.Left() != 0 {
				t.Errorf("the signer %s has the next leaf %d, and %d left", what, s.Next(), s.Left())
			}
			if f := s.Fork(); f != nil {
				t.Errorf("the fork of the signer %s is not nil", what)
			}
			if b := s.Save(); b != "" {
				t.Errorf("the signer %s saves %x", what, b)
			}
		}
	}
}
