package merkle

import (
	"certpath/api"
	"certpath/hash"
	"certpath/ots"
)

// Sizes of the parts of a signature.
const (
	leafSize    = 4
	oneTimeSize = 35 * api.DigestSize // a signature of package ots
)

// publicKey is a key with what follows from it alone, which those who sign and those who verify must reckon alike.
type publicKey struct{ api.Key }

// leaves returns how many leaves a tree with this key has.
func (k publicKey) leaves() int {
	return 1 << k.Height
}

// signatureSize returns how many bytes a signature has.
func (k publicKey) signatureSize() int {
	return leafSize + oneTimeSize + k.Height*api.DigestSize
}

// digest returns the digest of a message for a leaf.
func (k publicKey) digest(leaf int, message string) string {
	return hash.Short("M", k.ID, k.Root, fourBytes(leaf), message)
}

// parent returns node i of the level above two nodes of a level.
func (k publicKey) parent(level, i int, left, right string) string {
	return hash.Short("N", k.ID, oneByte(level), fourBytes(i), left, right)
}

// climb returns the node at the level of the root that the node of a leaf and the siblings lead to.
func (k publicKey) climb(leaf int, node, siblings string) string {
	for level := range k.Height {
		left, right := node, siblings[level*api.DigestSize:][:api.DigestSize]
		if leaf>>level%2 == 1 {
			left, right = right, left
		}
		node = k.parent(level, leaf>>(level+1), left, right)
	}
	return node
}

// Check returns the error of a key that cannot be that of a tree.
func Check(k api.Key) api.Errno {
	if !validHeight(k.Height) || len(k.ID) != api.DigestSize || len(k.Root) != api.DigestSize {
		return api.ErrKey
	}
	return api.OK
}

// Verify returns the error of a signature of a message that does not verify with a key.
func Verify(k api.Key, message, signature string) api.Errno {
	if err := Check(k); err != api.OK {
		return err
	}
	if !verifies(publicKey{k}, message, signature) {
		return api.ErrSignature
	}
	return api.OK
}

// verifies reports whether a signature of a message leads to the root of a valid key.
func verifies(k publicKey, message, signature string) bool {
	if len(signature) != k.signatureSize() {
		return false
	}
	leaf, ok := Leaf(signature)
	if !ok || leaf >= k.leaves() {
		return false
	}
	oneTime, siblings := signature[leafSize:][:oneTimeSize], signature[leafSize+oneTimeSize:]
	node, err := ots.Recover(k.ID, leaf, k.digest(leaf, message), oneTime)
	return err == api.OK && k.climb(leaf, node, siblings) == k.Root
}

// Leaf returns the leaf that a signature says it was made with, which need not be one of the tree.
func Leaf(signature string) (int, bool) {
	if len(signature) < leafSize {
		return 0, false
	}
	leaf := 0
	for i := range leafSize {
		leaf = leaf<<8 | int(signature[i])
	}
	return leaf, true
}

// validHeight reports whether a tree can have this height.
func validHeight(height int) bool {
	return 0 <= height && height <= api.MaxHeight
}

// fourBytes returns a number as four bytes, the most significant one first.
func fourBytes(n int) string {
	return string([]byte{byte(n >> 24), byte(n >> 16), byte(n >> 8), byte(n)})
}

// oneByte returns a number as one byte.
func oneByte(n int) string {
	return string([]byte{byte(n)})
}
