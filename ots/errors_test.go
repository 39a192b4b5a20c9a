package ots_test

import (
	"math"
	"testing"

	"certpath/api"
	"certpath/ots"
)

// Arguments, the valid ones first. The sizes of others are among those that are not valid.
func someIDs() []string {
	return []string{count(0, 16), fill(0xff, 16), "", count(0, 15), count(0, 17), count(0, 32), fill(0, 1000)}
}
func someSeeds() []string {
	return []string{count(16, 32), fill(0, 32), "", count(16, 31), count(16, 33), count(16, 16), fill(0, 1000)}
}
func someLeaves() []int {
	return []int{0, 255, -1, 256, 257, -255, -256, 511, 1 << 16, 1 << 31, 1<<32 - 1, 1 << 32, -1 << 31, -1 << 32, math.MinInt, math.MinInt + 1, math.MaxInt}
}
func someDigests() []string {
	return []string{count(0, 16), fill(0xff, 16), "", count(0, 15), count(0, 17), count(0, 32), fill(0, 1000)}
}
func someSignatures() []string {
	return []string{sample(1, 560), fill(0, 560), "", sample(1, 559), sample(1, 561), sample(1, 16), sample(1, 35), sample(1, 512), sample(1, 544), sample(1, 576), sample(1, 1120), fill(0, 100000)}
}

// wrongs are the arguments that are not valid.
type wrongs struct{ id, seed, leaf, digest, signature bool }

// first returns the first error, in the order that P11.2, P11.3 and P11.4 have in common; functions without an argument have it right.
func (w wrongs) first() api.Errno {
	switch {
	case w.id, w.seed:
		return api.ErrKey
	case w.leaf:
		return api.ErrRange
	case w.digest:
		return api.ErrValue
	case w.signature:
		return api.ErrSignature
	}
	return api.OK
}

// checkResult checks the error of a call, and that there is a result exactly if there is none.
func checkResult(t *testing.T, what string, w wrongs, result string, size int, err api.Errno) {
	t.Helper()
	if want := w.first(); err != want || want == api.OK && len(result) != size || want != api.OK && result != "" {
		t.Errorf("%s with %+v is %x, %d, want the error %d", what, w, result, err, want)
	}
}

// TestPublicErrors: P11.2, each error alone and with others.
func TestPublicErrors(t *testing.T) {
	for i, id := range someIDs() {
		for k, seed := range someSeeds() {
			for m, leaf := range someLeaves() {
				public, err := ots.Public(id, seed, leaf)
				checkResult(t, "Public", wrongs{id: i > 1, seed: k > 1, leaf: m > 1}, public, 16, err)
			}
		}
	}
}

// TestSignErrors: P11.3, each error alone and with others.
func TestSignErrors(t *testing.T) {
	for i, id := range someIDs() {
		for k, seed := range someSeeds() {
			for m, leaf := range someLeaves() {
				for n, digest := range someDigests() {
					signature, err := ots.Sign(id, seed, leaf, digest)
					checkResult(t, "Sign", wrongs{id: i > 1, seed: k > 1, leaf: m > 1, digest: n > 1}, signature, 560, err)
				}
			}
		}
	}
}

// TestRecoverErrors: P11.4, each error alone and with others.
func TestRecoverErrors(t *testing.T) {
	for i, id := range someIDs() {
		for m, leaf := range someLeaves() {
			for n, digest := range someDigests() {
				for k, signature := range someSignatures() {
					public, err := ots.Recover(id, leaf, digest, signature)
					checkResult(t, "Recover", wrongs{id: i > 1, leaf: m > 1, digest: n > 1, signature: k > 1}, public, 16, err)
				}
			}
		}
	}
}

// TestErrorsKnown: P11.2 to P11.4, errors that are written out here.
func TestErrorsKnown(t *testing.T) {
	id, seed, digest, signature := count(0, 16), count(16, 32), count(48, 16), fill(1, 560)
	for _, k := range []struct {
		what, id, seed    string
		leaf              int
		digest, signature string
		want              [3]api.Errno // of Public, Sign and Recover
	}{
		{"nothing", id, seed, 0, digest, signature, [3]api.Errno{}},
		{"the id", "", seed, 0, digest, signature, [3]api.Errno{api.ErrKey, api.ErrKey, api.ErrKey}},
		{"the seed", id, "", 0, digest, signature, [3]api.Errno{api.ErrKey, api.ErrKey, api.OK}},
		{"the leaf", id, seed, -1, digest, signature, [3]api.Errno{api.ErrRange, api.ErrRange, api.ErrRange}},
		{"the digest", id, seed, 0, "", signature, [3]api.Errno{api.OK, api.ErrValue, api.ErrValue}},
		{"the signature", id, seed, 0, digest, "", [3]api.Errno{api.OK, api.OK, api.ErrSignature}},
		{"all", "", "", -1, "", "", [3]api.Errno{api.ErrKey, api.ErrKey, api.ErrKey}},
		{"all but the id", id, "", -1, "", "", [3]api.Errno{api.ErrKey, api.ErrKey, api.ErrRange}},
		{"all but the seed", "", seed, -1, "", "", [3]api.Errno{api.ErrKey, api.ErrKey, api.ErrKey}},
		{"all but the id and the seed", id, seed, -1, "", "", [3]api.Errno{api.ErrRange, api.ErrRange, api.ErrRange}},
		{"the digest and the signature", id, seed, 255, "", "", [3]api.Errno{api.OK, api.ErrValue, api.ErrValue}},
		{"the seed and the digest", id, "", 255, "", signature, [3]api.Errno{api.ErrKey, api.ErrKey, api.ErrValue}},
		{"the leaf and the signature", id, seed, 256, digest, "", [3]api.Errno{api.ErrRange, api.ErrRange, api.ErrRange}},
		{"the id and the seed, exchanged", seed, id, 0, digest, signature, [3]api.Errno{api.ErrKey, api.ErrKey, api.ErrKey}},
	} {
		_, err1 := ots.Public(k.id, k.seed, k.leaf)
		_, err2 := ots.Sign(k.id, k.seed, k.leaf, k.digest)
		_, err3 := ots.Recover(k.id, k.leaf, k.digest, k.signature)
		if got := [3]api.Errno{err1, err2, err3}; got != k.want {
			t.Errorf("%s not valid: the errors are %v, want %v", k.what, got, k.want)
		}
	}
}

// TestSizes: P11.2 to P11.4, every size of an id, of a seed and of a signature.
func TestSizes(t *testing.T) {
	id, seed, digest := count(0, 16), count(16, 32), count(48, 16)
	for n := range 1200 {
		b := sample(3, n)
		public, err := ots.Public(b, seed, 0)
		checkResult(t, "Public", wrongs{id: n != 16}, public, 16, err)
		public, err = ots.Public(id, b, 0)
		checkResult(t, "Public", wrongs{seed: n != 32}, public, 16, err)
		signature, err := ots.Sign(b, seed, 0, digest)
		checkResult(t, "Sign", wrongs{id: n != 16}, signature, 560, err)
		signature, err = ots.Sign(id, b, 0, digest)
		checkResult(t, "Sign", wrongs{seed: n != 32}, signature, 560, err)
		signature, err = ots.Sign(id, seed, 0, b)
		checkResult(t, "Sign", wrongs{digest: n != 16}, signature, 560, err)
		public, err = ots.Recover(b, 0, digest, fill(0, 560))
		checkResult(t, "Recover", wrongs{id: n != 16}, public, 16, err)
		public, err = ots.Recover(id, 0, b, fill(0, 560))
		checkResult(t, "Recover", wrongs{digest: n != 16}, public, 16, err)
		public, err = ots.Recover(id, 0, digest, b)
		checkResult(t, "Recover", wrongs{signature: n != 560}, public, 16, err)
	}
}

// TestLeaves: P11.2 to P11.4, the leaves about both ends.
func TestLeaves(t *testing.T) {
	id, seed, digest := count(0, 16), count(16, 32), count(48, 16)
	for leaf := -300; leaf < 600; leaf++ {
		w := wrongs{leaf: leaf < 0 || leaf > 255}
		public, err := ots.Public(id, seed, leaf)
		checkResult(t, "Public", w, public, 16, err)
		signature, err := ots.Sign(id, seed, leaf, digest)
		checkResult(t, "Sign", w, signature, 560, err)
		public, err = ots.Recover(id, leaf, digest, fill(0, 560))
		checkResult(t, "Recover", w, public, 16, err)
	}
}
