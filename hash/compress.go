package hash

import "math/bits"

// Sizes of FIPS 180-4.
const (
	wordSize   = 4
	stateWords = 8
	blockWords = 16
	blockSize  = blockWords * wordSize
	lengthSize = 8 // the number of bits, at the end of the last block
	lengthAt   = blockSize - lengthSize
	rounds     = 64
)

// roundConstants are the first 32 bits of the fractional parts of the cube roots of the first 64 primes.
var roundConstants = [rounds]uint32{
	0x428a2f98, 0x71374491, 0xb5c0fbcf, 0xe9b5dba5, 0x3956c25b, 0x59f111f1, 0x923f82a4, 0xab1c5ed5,
	0xd807aa98, 0x12835b01, 0x243185be, 0x550c7dc3, 0x72be5d74, 0x80deb1fe, 0x9bdc06a7, 0xc19bf174,
	0xe49b69c1, 0xefbe4786, 0x0fc19dc6, 0x240ca1cc, 0x2de92c6f, 0x4a7484aa, 0x5cb0a9dc, 0x76f988da,
	0x983e5152, 0xa831c66d, 0xb00327c8, 0xbf597fc7, 0xc6e00bf3, 0xd5a79147, 0x06ca6351, 0x14292967,
	0x27b70a85, 0x2e1b2138, 0x4d2c6dfc, 0x53380d13, 0x650a7354, 0x766a0abb, 0x81c2c92e, 0x92722c85,
	0xa2bfe8a1, 0xa81a664b, 0xc24b8b70, 0xc76c51a3, 0xd192e819, 0xd6990624, 0xf40e3585, 0x106aa070,
	0x19a4c116, 0x1e376c08, 0x2748774c, 0x34b0bcb5, 0x391c0cb3, 0x4ed8aa4a, 0x5b9cca4f, 0x682e6ff3,
	0x748f82ee, 0x78a5636f, 0x84c87814, 0x8cc70208, 0x90befffa, 0xa4506ceb, 0xbef9a3f7, 0xc67178f2,
}

// firstState returns the state before the first block: the first 32 bits of the fractional parts of the square roots of the first 8 primes.
func firstState() [stateWords]uint32 {
	return [stateWords]uint32{
		0x6a09e667, 0xbb67ae85, 0x3c6ef372, 0xa54ff53a, 0x510e527f, 0x9b05688c, 0x1f83d9ab, 0x5be0cd19,
	}
}

// compress returns the state behind a block, from the state before it.
func compress(state [stateWords]uint32, block [blockSize]byte) [stateWords]uint32 {
	w := schedule(block)
	a, b, c, d := state[0], state[1], state[2], state[3]
	e, f, g, h := state[4], state[5], state[6], state[7]
	for i := range rounds {
		choice := e&f ^ ^e&g
		majority := a&b ^ a&c ^ b&c
		t1 := h + mix(e, 6, 11, 25) + choice + roundConstants[i] + w[i]
		t2 := mix(a, 2, 13, 22) + majority
		a, b, c, d, e, f, g, h = t1+t2, a, b, c, d+t1, e, f, g
	}
	return [stateWords]uint32{
		state[0] + a, state[1] + b, state[2] + c, state[3] + d,
		state[4] + e, state[5] + f, state[6] + g, state[7] + h,
	}
}

// schedule returns the words that the rounds add: those of the block, then further ones made from them.
func schedule(block [blockSize]byte) [rounds]uint32 {
	var w [rounds]uint32
	for i, c := range block {
		w[i/wordSize] = w[i/wordSize]<<8 | uint32(c)
	}
	for i := blockWords; i < rounds; i++ {
		x, y := w[i-15], w[i-2]
		s0 := bits.RotateLeft32(x, -7) ^ bits.RotateLeft32(x, -18) ^ x>>3
		s1 := bits.RotateLeft32(y, -17) ^ bits.RotateLeft32(y, -19) ^ y>>10
		w[i] = w[i-16] + s0 + w[i-7] + s1
	}
	return w
}

// mix combines three rotations of a word to the right.
func mix(x uint32, i, j, k int) uint32 {
	return bits.RotateLeft32(x, -i) ^ bits.RotateLeft32(x, -j) ^ bits.RotateLeft32(x, -k)
}

// putLength writes a number of bytes, counted in bits, to the end of the last block.
func putLength(block *[blockSize]byte, length int) {
	n := uint64(length) * 8
	for i := blockSize - 1; i >= lengthAt; i-- {
		block[i] = byte(n)
		n >>= 8
	}
}

// digest returns a state as bytes.
func digest(state [stateWords]uint32) string {
	var b [stateWords * wordSize]byte
	for i := range b {
		shift := 8 * (wordSize - 1 - i%wordSize)
		b[i] = byte(state[i/wordSize] >> shift)
	}
	return string(b[:])
}
