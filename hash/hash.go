// Package hash is layer 1: SHA-256. See shared/doc/01-hash.md.
package hash

import "certpath/api"

// Sum returns the SHA-256 of its arguments, one after the other.
func Sum(l ...string) string {
	var s Stream
	for _, b := range l {
		s.Write(b)
	}
	return s.Sum()
}

// Short returns the first bytes of Sum, as many as digests in signatures have.
func Short(l ...string) string {
	return Sum(l...)[:api.DigestSize]
}

// Stream computes the SHA-256 of the bytes that are written to it.
// Its parts are arrays, so that a copy of it is independent of it.
type Stream struct {
	state  [stateWords]uint32 // of the whole blocks; no meaning before the first one
	block  [blockSize]byte    // begins with the bytes behind the last whole block
	length int                // bytes written in all
}

// Start returns a stream to which nothing was written.
func Start() *Stream {
	return &Stream{}
}

// Write adds bytes to the stream.
func (s *Stream) Write(b string) {
	if s == nil {
		return
	}
	for b != "" {
		used := s.length % blockSize
		n := copy(s.block[used:], b)
		b = b[n:]
		if used+n == blockSize {
			s.state = compress(s.chain(), s.block)
		}
		s.length += n
	}
}

// Sum returns the SHA-256 of all bytes that were written. It pads a copy of the last block, so that the stream can be written to afterwards.
func (s *Stream) Sum() string {
	if s == nil {
		return Sum()
	}
	state, block := s.chain(), s.block
	used := s.length % blockSize
	block[used] = 0x80
	clear(block[used+1:])
	if used >= lengthAt {
		state = compress(state, block)
		clear(block[:])
	}
	putLength(&block, s.length)
	state = compress(state, block)
	return digest(state)
}

// Len returns how many bytes were written.
func (s *Stream) Len() int {
	if s == nil {
		return 0
	}
	return s.length
}

// chain returns the state with which the next block is compressed. A stream without a whole block has none of its own: a zero Stream must be valid.
func (s *Stream) chain() [stateWords]uint32 {
	if s.length < blockSize {
		return firstState()
	}
	return s.state
}
