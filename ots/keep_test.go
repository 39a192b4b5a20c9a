package ots_test

import (
	"slices"
	"testing"

	"certpath/api"
	"certpath/ots"
)

// TestDigitsNew: R3, what Digits returned is not changed by later calls, and the caller may change it, also behind it.
func TestDigitsNew(t *testing.T) {
	overwrite := func(l []int) {
		for i := range l[:cap(l)] {
			l[:cap(l)][i] = 99
		}
	}
	for _, digest := range digests() {
		want := modelDigits(digest)
		first, err1 := ots.Digits(digest)
		second, err2 := ots.Digits(digest)
		other, err3 := ots.Digits(fill(0x5a, 16))
		if err1 != api.OK || err2 != api.OK || err3 != api.OK {
			t.Fatalf("Digits has the errors %d, %d and %d", err1, err2, err3)
		}
		k := keys()[2]
		signature := checkSign(t, k, digest)
		checkRecover(t, k.id, k.leaf, digest, signature)
		if !slices.Equal(first, want) || !slices.Equal(second, want) {
			t.Errorf("the digits of %x are %v and %v after other calls", digest, first, second)
		}
		overwrite(second)
		overwrite(other)
		if !slices.Equal(first, want) {
			t.Errorf("the digits of %x are %v after a change of other results", digest, first)
		}
		overwrite(first)
		checkDigits(t, digest)
		checkSign(t, k, digest)
		checkRecover(t, k.id, k.leaf, digest, signature)
	}
}

// TestAgain: R4, the same arguments have the same results, whatever was called before, calls with errors among them.
func TestAgain(t *testing.T) {
	type results struct{ public, signature, recovered string }
	call := func(k key, digest string) results {
		public, err1 := ots.Public(k.id, k.seed, k.leaf)
		signature, err2 := ots.Sign(k.id, k.seed, k.leaf, digest)
		recovered, err3 := ots.Recover(k.id, k.leaf, digest, sample(int64(k.leaf), 560))
		if err1 != api.OK || err2 != api.OK || err3 != api.OK {
			t.Fatalf("the errors are %d, %d and %d", err1, err2, err3)
		}
		return results{public, signature, recovered}
	}
	var before []results
	for _, k := range keys() {
		for _, digest := range digests() {
			before = append(before, call(k, digest))
		}
	}
	for _, k := range slices.Backward(keys()) {
		for _, digest := range slices.Backward(digests()) {
			ots.Sign(k.id, k.seed, -1, digest)
			ots.Recover(k.id, k.leaf, "", "")
			last := len(before) - 1
			if call(k, digest) != before[last] {
				t.Errorf("the results for the leaf %d and %x are others the second time", k.leaf, digest)
			}
			before = before[:last]
		}
	}
}

// TestAtOnce: R4 and R5, calls at the same time do not disturb each other.
func TestAtOnce(t *testing.T) {
	type answer struct {
		k         key
		signature string
	}
	answers := make(chan answer)
	for _, k := range keys() {
		go func() {
			signature, _ := ots.Sign(k.id, k.seed, k.leaf, count(7, 16))
			answers <- answer{k, signature}
		}()
	}
	for range keys() {
		a := <-answers
		if want := modelSign(a.k.id, a.k.seed, a.k.leaf, count(7, 16)); a.signature != want {
			t.Errorf("Sign(%x, %x, %d, ..) is %x, want %x", a.k.id, a.k.seed, a.k.leaf, a.signature, want)
		}
	}
}
