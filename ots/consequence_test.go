package ots_test

import (
	"testing"

	"certpath/api"
	"certpath/ots"
)

// TestRecoverSign: P11.5, Recover of Sign is Public, for random keys and digests.
func TestRecoverSign(t *testing.T) {
	for i := range int64(400) {
		k := key{sample(i, 16), sample(1000+i, 32), int(i*101) % (lastLeaf + 1)}
		public, err := ots.Public(k.id, k.seed, k.leaf)
		if err != api.OK {
			t.Fatalf("Public has the error %d", err)
		}
		for j := range int64(3) {
			digest := sample(3000+10*i+j, 16)
			signature, err := ots.Sign(k.id, k.seed, k.leaf, digest)
			if err != api.OK {
				t.Fatalf("Sign has the error %d", err)
			}
			if got, err := ots.Recover(k.id, k.leaf, digest, signature); got != public || err != api.OK {
				t.Errorf("%x, %x, %d: the signature of %x leads to %x, %d, not to %x", k.id, k.seed, k.leaf, digest, got, err, public)
			}
		}
	}
}

// TestRecoverChanged: P11.5, a signature of which a byte is changed leads to what the steps give, which is another key.
func TestRecoverChanged(t *testing.T) {
	for i, digest := range digests()[:4] {
		k := keys()[i]
		public, err1 := ots.Public(k.id, k.seed, k.leaf)
		signature, err2 := ots.Sign(k.id, k.seed, k.leaf, digest)
		if err1 != api.OK || err2 != api.OK {
			t.Fatalf("the errors are %d and %d", err1, err2)
		}
		for at := range signature {
			changed := replace(signature, at, signature[at]^1<<(at%8))
			if checkRecover(t, k.id, k.leaf, digest, changed) == public {
				t.Errorf("the byte %d of the signature of %x does not count", at, digest)
			}
		}
	}
}

// TestRecoverOther: P11.5, the digest of another signature, another leaf or another id: Recover returns what the steps give, which is another key.
func TestRecoverOther(t *testing.T) {
	k := keys()[0]
	public, err := ots.Public(k.id, k.seed, k.leaf)
	if err != api.OK {
		t.Fatalf("Public has the error %d", err)
	}
	for _, digest := range digests() {
		signature, err := ots.Sign(k.id, k.seed, k.leaf, digest)
		if err != api.OK {
			t.Fatalf("Sign has the error %d", err)
		}
		for _, other := range digests() {
			if got := checkRecover(t, k.id, k.leaf, other, signature); (got == public) != (digest == other) {
				t.Errorf("the signature of %x leads with %x to %x", digest, other, got)
			}
		}
		for bit := range 128 {
			other := replace(digest, bit/8, digest[bit/8]^1<<(bit%8))
			if checkRecover(t, k.id, k.leaf, other, signature) == public {
				t.Errorf("the signature of %x is one of %x", digest, other)
			}
		}
		for _, leaf := range []int{1, 128, lastLeaf} {
			if checkRecover(t, k.id, leaf, digest, signature) == public {
				t.Errorf("the signature of %x is one with the leaf %d", digest, leaf)
			}
		}
		for at := range k.id {
			if checkRecover(t, replace(k.id, at, k.id[at]^0x40), k.leaf, digest, signature) == public {
				t.Errorf("the byte %d of the id does not count", at)
			}
		}
	}
}

// TestRecoverExchanged: P11.5, signatures of which two values are exchanged.
func TestRecoverExchanged(t *testing.T) {
	k := keys()[1]
	public, err1 := ots.Public(k.id, k.seed, k.leaf)
	for _, digest := range digests()[:8] {
		signature, err2 := ots.Sign(k.id, k.seed, k.leaf, digest)
		if err1 != api.OK || err2 != api.OK {
			t.Fatalf("the errors are %d and %d", err1, err2)
		}
		for c := range chains - 1 {
			exchanged := signature[:16*c] + signature[16*c+16:16*c+32] + signature[16*c:16*c+16] + signature[16*c+32:]
			if checkRecover(t, k.id, k.leaf, digest, exchanged) == public {
				t.Errorf("the order of the values %d and %d of the signature of %x does not count", c, c+1, digest)
			}
		}
	}
}

// checkLess checks that each of two different digests has a chain at which its digit is less.
func checkLess(t *testing.T, a, b string) {
	t.Helper()
	x, err1 := ots.Digits(a)
	y, err2 := ots.Digits(b)
	if len(x) != chains || len(y) != chains || err1 != api.OK || err2 != api.OK {
		t.Fatalf("Digits of %x and %x are %v, %d and %v, %d", a, b, x, err1, y, err2)
	}
	less, greater := false, false
	for c := range x {
		less = less || x[c] < y[c]
		greater = greater || x[c] > y[c]
	}
	if !less || !greater {
		t.Errorf("the digits of %x are %v, those of %x are %v", a, x, b, y)
	}
}

// TestLessBits: P11.5, digests that differ in one bit, or in two.
func TestLessBits(t *testing.T) {
	for _, digest := range digests() {
		for i := range 128 {
			one := replace(digest, i/8, digest[i/8]^1<<(i%8))
			checkLess(t, digest, one)
			for j := range i {
				two := replace(one, j/8, one[j/8]^1<<(j%8))
				checkLess(t, digest, two)
				checkLess(t, one, two)
			}
		}
	}
}

// TestLessSteps: P11.5, digests of which one can be made from the other by steps along the chains of halves alone.
func TestLessSteps(t *testing.T) {
	least := make([]byte, 16)
	for n := range 480 {
		next := append([]byte(nil), least...)
		next[n/30] += []byte{1, 16}[n/15%2]
		checkLess(t, string(least), string(next))
		checkLess(t, fill(0, 16), string(next))
		if n < 479 {
			checkLess(t, string(next), fill(0xff, 16))
		}
		least = next
	}
}

// TestLessPairs: P11.5, all pairs of some digests.
func TestLessPairs(t *testing.T) {
	all := append(digests(), singles()...)
	for i := range int64(300) {
		all = append(all, sample(i, 16))
	}
	for i, a := range all {
		for _, b := range all[:i] {
			if a != b {
				checkLess(t, a, b)
			}
		}
	}
}
