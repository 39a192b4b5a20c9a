package keyinfo_test

import (
	"testing"

	"certpath/api"
	"certpath/hash"
	"certpath/keyinfo"
)

// results are what the functions return for a key.
type results struct {
	algorithm, encoded, identifier string
	decoded                        api.Key
	checked, encodeErr, decodeErr  api.Errno
}

// call calls all functions for a key.
func call(k api.Key) results {
	var r results
	r.algorithm = keyinfo.Algorithm()
	r.checked = keyinfo.CheckAlgorithm(api.Element{Tag: api.TagSequence, Content: r.algorithm[2:], Raw: r.algorithm})
	r.encoded, r.encodeErr = keyinfo.Encode(k)
	r.decoded, r.decodeErr = keyinfo.Decode(r.encoded)
	r.identifier = keyinfo.Identifier(k)
	return r
}

// disturb calls functions with other keys, and with arguments that have errors.
func disturb() {
	call(plain())
	keyinfo.Decode("")
	keyinfo.Decode(seq(algorithm(), bits("", 0)))
	keyinfo.Encode(api.Key{Height: -1})
	keyinfo.Identifier(api.Key{})
	keyinfo.CheckAlgorithm(api.Element{})
}

// TestKeep: R3, what a function returned is not changed by later calls.
func TestKeep(t *testing.T) {
	var before []results
	for _, k := range keys(t) {
		before = append(before, call(k))
		disturb()
	}
	for i, k := range keys(t) {
		want := results{algorithm: algorithm(), encoded: modelEncode(k), identifier: hash.Short(keyBits(k)), decoded: k}
		if before[i] != want {
			t.Errorf("%x: the results are %x, want %x", k, before[i], want)
		}
	}
}

// TestAgain: R4, the results depend on the arguments alone.
func TestAgain(t *testing.T) {
	all := append(keys(t), badKeys()...)
	var first []results
	for _, k := range all {
		first = append(first, call(k))
	}
	for i := len(all) - 1; i >= 0; i-- {
		disturb()
		if r := call(all[i]); r != first[i] {
			t.Errorf("%x: the results are %x, and then %x", all[i], first[i], r)
		}
	}
}

// TestArguments: R3, a key and an element stay as they are.
func TestArguments(t *testing.T) {
	k, e := plain(), element(t, algorithm())
	b := modelEncode(k)
	keptKey, keptElement, keptBytes := k, e, []byte(b)
	keyinfo.Encode(k)
	keyinfo.Identifier(k)
	keyinfo.CheckAlgorithm(e)
	keyinfo.Decode(b)
	if k != keptKey || e != keptElement || b != string(keptBytes) {
		t.Errorf("the arguments have become %x, %x and %x", k, e, b)
	}
}

// TestBytes: R3, what Decode returned stays as it is when the bytes from which its argument was made are overwritten.
func TestBytes(t *testing.T) {
	bytes := []byte(modelEncode(plain()))
	k, err := keyinfo.Decode(string(bytes))
	for i := range bytes {
		bytes[i] = 0xaa
	}
	if k != plain() || err != api.OK {
		t.Errorf("the key is %x, %d", k, err)
	}
}

// TestKeyCopy: R3, a key that was returned can be changed, and the next one is as it was.
func TestKeyCopy(t *testing.T) {
	b := modelEncode(plain())
	k, _ := keyinfo.Decode(b)
	k.Height, k.ID, k.Root = 1, "", fill(0, 16)
	if again, err := keyinfo.Decode(b); again != plain() || err != api.OK {
		t.Errorf("Decode(%x) is %x, %d after another key was changed", b, again, err)
	}
}

// TestAtOnce: R4, calls at the same time do not disturb each other.
func TestAtOnce(t *testing.T) {
	type answer struct {
		i int
		r results
	}
	all := keys(t)
	answers := make(chan answer)
	for i, k := range all {
		go func() {
			disturb()
			answers <- answer{i, call(k)}
		}()
	}
	for range all {
		a := <-answers
		if want := call(all[a.i]); a.r != want {
			t.Errorf("%x: the results are %x, want %x", all[a.i], a.r, want)
		}
	}
}
