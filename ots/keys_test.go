package ots_test

import (
	"testing"

	"certpath/api"
	"certpath/hash"
	"certpath/ots"
)

// TestKnown: P11.2 to P11.4, values that were reckoned by another program, with the SHA-256 of Python.
func TestKnown(t *testing.T) {
	unhex := func(s string) string {
		b, ok := hash.Unhex(s)
		if !ok {
			t.Fatalf("Unhex(%s) fails", s)
		}
		return b
	}
	for _, k := range []struct {
		id, seed    string
		leaf        int
		digest      string
		public      string
		first, last string // of the signature
		sum         string // of the signature
		other       string // what the signature leads to with the digest of 16 bytes 5a
	}{
		{count(0, 16), count(16, 32), 0, "00112233445566778899aabbccddeeff", "ba93875e12138f871d7c6dd0138c4084", "c42b615b6b04a33bdf8a52f91f241849", "3096dc07d3a8ca362ea4057adfaad381", "be6bb43d8601417bd53a3b56e054b6b850f0b7404e2e67c8efd9f190e8a3428e", "4f80398a177a0f9c591ced36b40d7267"},
		{count(0, 16), count(16, 32), 1, "00112233445566778899aabbccddeeff", "23c42a0abbb178f0dfb00ef704b780b9", "60021b31e2173129de251ffe5708b980", "c7139dc166dbbe6e9e37497f8dacc2b0", "8f8b405b9be275a3bf755d8f97154b777b3efa51aaf13985e26bd659d0b7828a", "9b020491a30496d1de9d40ae5c9081ff"},
		{count(0, 16), count(16, 32), 200, "fedcba98765432100123456789abcdef", "3b943d5897efbfd8a570b50b22374015", "be2b42077c7447b96c9fe55db85b1375", "c7b7791d838b0d554ad572959c06614b", "a610580a4aa5d5f7d1899a1c1ba8df147434a98a177def7ceed9dee0ffd468f4", "4787c7aeecf051d72ec7ae8deb049e52"},
		{fill(0, 16), fill(0, 32), 0, "00000000000000000000000000000000", "a046a36be51541af2872d406de88580a", "0142c99fc3c4c697bd22445dafb057e0", "92dae3101c3d8dd78be41a88ac60d7c7", "c9d2d452cd5f3265e4f70cafeaf35aba537de1925c96a2bb7fd95742acf92fb9", "a2ef4f23dde2338c3781a2a46c19c0fe"},
		{fill(0xff, 16), fill(0xff, 32), 255, "ffffffffffffffffffffffffffffffff", "f06fe6b72b0c8d459a15fbb54ddf9643", "0b0d3a51aab201ba96eae101cd0d97d0", "aa331c04994562c70ad36a50c118ef80", "b6f29ff6522c74e2c40d5f47660d67adbed2de1afce70271768dd211b6a1200c", "bc3ff0792476718d5cf3b780646ace0b"},
	} {
		digest := unhex(k.digest)
		if public, err := ots.Public(k.id, k.seed, k.leaf); hash.Hex(public) != k.public || err != api.OK {
			t.Errorf("leaf %d: Public is %x, %d, want %s", k.leaf, public, err, k.public)
		}
		signature, err := ots.Sign(k.id, k.seed, k.leaf, digest)
		if len(signature) != 560 || err != api.OK {
			t.Fatalf("leaf %d: Sign is %x, %d", k.leaf, signature, err)
		}
		if hash.Hex(signature[:16]) != k.first || hash.Hex(signature[544:]) != k.last || hash.Hex(hash.Sum(signature)) != k.sum {
			t.Errorf("leaf %d: Sign is %x", k.leaf, signature)
		}
		if public, err := ots.Recover(k.id, k.leaf, digest, signature); hash.Hex(public) != k.public || err != api.OK {
			t.Errorf("leaf %d: Recover is %x, %d, want %s", k.leaf, public, err, k.public)
		}
		if public, err := ots.Recover(k.id, k.leaf, fill(0x5a, 16), signature); hash.Hex(public) != k.other || err != api.OK {
			t.Errorf("leaf %d: Recover with another digest is %x, %d, want %s", k.leaf, public, err, k.other)
		}
	}
}

// TestPublic: P11.2, several ids and seeds; the keys differ, so that all parts of the arguments count.
func TestPublic(t *testing.T) {
	seen := map[string]bool{}
	for _, k := range keys() {
		seen[checkPublic(t, k)] = true
		for _, other := range []key{
			{replace(k.id, 0, k.id[0]^1), k.seed, k.leaf}, {replace(k.id, 15, k.id[15]^0x80), k.seed, k.leaf},
			{k.id, replace(k.seed, 0, k.seed[0]^1), k.leaf}, {k.id, replace(k.seed, 31, k.seed[31]^0x80), k.leaf},
			{k.id, k.seed, k.leaf ^ 64},
		} {
			seen[checkPublic(t, other)] = true
		}
	}
	if len(seen) != 6*len(keys()) {
		t.Errorf("%d keys, want %d", len(seen), 6*len(keys()))
	}
}

// TestPublicLeaves: P11.2, all leaves.
func TestPublicLeaves(t *testing.T) {
	seen := map[string]bool{}
	for leaf := range lastLeaf + 1 {
		seen[checkPublic(t, key{count(0, 16), count(16, 32), leaf})] = true
	}
	if len(seen) != 256 {
		t.Errorf("%d keys, want 256", len(seen))
	}
}

// TestSign: P11.3 and P11.4, every key with every digest.
func TestSign(t *testing.T) {
	for _, k := range keys() {
		public := checkPublic(t, k)
		for _, digest := range digests() {
			signature := checkSign(t, k, digest)
			if got := checkRecover(t, k.id, k.leaf, digest, signature); got != public {
				t.Errorf("leaf %d: the signature of %x leads to %x, not to %x", k.leaf, digest, got, public)
			}
		}
	}
}

// TestSignEnds: P11.3 and P11.4, chains that are signed at the position 0, where the value is the secret, and at 15, where it is the end.
func TestSignEnds(t *testing.T) {
	for _, k := range keys() {
		low, err1 := ots.Sign(k.id, k.seed, k.leaf, fill(0, 16))
		high, err2 := ots.Sign(k.id, k.seed, k.leaf, fill(0xff, 16))
		if err1 != api.OK || err2 != api.OK {
			t.Fatalf("Sign has the errors %d and %d", err1, err2)
		}
		ends := ""
		for c := range chains {
			chain := modelChain(k.id, k.seed, k.leaf, c)
			at := func(signature string) string { return signature[16*c : 16*c+16] }
			want := chain[15]
			if c >= 32 { // the sum of 16 bytes 255 is 0
				want = chain[0]
			}
			if at(high) != want {
				t.Errorf("leaf %d: the value of the chain %d of 16 bytes 255 is %x, want %x", k.leaf, c, at(high), want)
			}
			want = chain[0]
			if c == 32 || c == 33 { // 1, 14, 0
				want = chain[[]int{1, 14}[c-32]]
			}
			if at(low) != want {
				t.Errorf("leaf %d: the value of the chain %d of 16 bytes 0 is %x, want %x", k.leaf, c, at(low), want)
			}
			ends += chain[15]
		}
		if public, err := ots.Public(k.id, k.seed, k.leaf); public != hash.Short("L", k.id, b4(k.leaf), ends) || err != api.OK {
			t.Errorf("leaf %d: Public is %x, %d", k.leaf, public, err)
		}
	}
}

// TestSignSingle: P11.3 and P11.4, digests in which one half of one byte alone is not 0.
func TestSignSingle(t *testing.T) {
	for i, digest := range singles() {
		k := keys()[i%len(keys())]
		public, err := ots.Public(k.id, k.seed, k.leaf)
		signature := checkSign(t, k, digest)
		if got := checkRecover(t, k.id, k.leaf, digest, signature); got != public || err != api.OK {
			t.Errorf("the signature of %x leads to %x, not to %x, %d", digest, got, public, err)
		}
	}
}

// TestSignLeaves: P11.3 and P11.4, all leaves.
func TestSignLeaves(t *testing.T) {
	for leaf := range lastLeaf + 1 {
		k := key{sample(1, 16), sample(2, 32), leaf}
		digest := sample(int64(leaf), 16)
		checkRecover(t, k.id, leaf, digest, checkSign(t, k, digest))
	}
}

// TestSignPositions: P11.3, each chain of digits at each position.
func TestSignPositions(t *testing.T) {
	k := keys()[0]
	for d := range 16 {
		signature, err := ots.Sign(k.id, k.seed, k.leaf, fill(byte(17*d), 16))
		if err != api.OK {
			t.Fatalf("Sign has the error %d", err)
		}
		for c := range 32 {
			if want := modelChain(k.id, k.seed, k.leaf, c)[d]; signature[16*c:16*c+16] != want {
				t.Errorf("the value of the chain %d at the position %d is %x, want %x", c, d, signature[16*c:16*c+16], want)
			}
		}
	}
}

// TestRecoverAny: P11.4, signatures that nobody made: any bytes lead to some key.
func TestRecoverAny(t *testing.T) {
	for i, digest := range append(digests(), singles()...) {
		leaf := i % (lastLeaf + 1)
		for _, signature := range []string{fill(0, 560), fill(0xff, 560), sample(int64(i), 560)} {
			checkRecover(t, sample(int64(i), 16), leaf, digest, signature)
		}
	}
}
