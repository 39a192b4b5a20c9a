package ots

import (
	"certpath/api"
	"certpath/hash"
)

const (
	digitBits     = 4
	maxDigit      = 1<<digitBits - 1
	end           = maxDigit // the last position of a chain
	sumDigits     = 3
	chains        = 2*api.DigestSize + sumDigits // two for each byte of a digest
	signatureSize = chains * api.DigestSize
	leaves        = 1 << api.MaxHeight
)

// oneTimeKey is what tells the hashes of one key from those of all other ones.
type oneTimeKey struct {
	id   string
	leaf string // as four bytes
}

// keyOf returns the key of a leaf.
func keyOf(id string, leaf int) oneTimeKey {
	return oneTimeKey{id: id, leaf: fourBytes(leaf)}
}

// secret returns the value of a chain at the position 0.
func (k oneTimeKey) secret(seed string, chain int) string {
	return hash.Short("S", seed, k.leaf, oneByte(chain))
}

// walk makes the steps of a chain from one position to another one, and returns the value there.
func (k oneTimeKey) walk(chain, from, to int, value string) string {
	for position := from; position < to; position++ {
		value = hash.Short("C", k.id, k.leaf, oneByte(chain), oneByte(position), value)
	}
	return value
}

// public returns the public key whose chains have these ends.
func (k oneTimeKey) public(ends string) string {
	return hash.Short("L", k.id, k.leaf, ends)
}

// joinValues returns the values of all chains, in order.
func joinValues(valueOf func(chain int) string) string {
	var all [signatureSize]byte
	for chain := range chains {
		copy(all[chain*api.DigestSize:], valueOf(chain))
	}
	return string(all[:])
}

// fourBytes returns a number as four bytes, the most significant one first.
func fourBytes(n int) string {
	return string([]byte{byte(n >> 24), byte(n >> 16), byte(n >> 8), byte(n)})
}

// oneByte returns a number as one byte.
func oneByte(n int) string {
	return string([]byte{byte(n)})
}
