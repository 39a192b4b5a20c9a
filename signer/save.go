package signer

import (
	"certpath/api"
	"certpath/merkle"
)

// Places of the parts of a saved state, which begins with its mark.
const (
	mark      = "KEY1"
	seedAt    = len(mark)
	heightAt  = seedAt + api.SeedSize
	nextAt    = heightAt + 1
	savedSize = nextAt + 4
)

// Save returns the state as bytes.
func (s *Signer) Save() string {
	if s.isEmpty() {
		return ""
	}
	height, next := s.Key().Height, s.next
	return mark + s.seed + string([]byte{byte(height), byte(next >> 24), byte(next >> 16), byte(next >> 8), byte(next)})
}

// Load returns the signer with a state that Save returned.
func Load(b string) (*Signer, api.Errno) {
	if len(b) != savedSize || b[:seedAt] != mark {
		return nil, api.ErrValue
	}
	// Leaves have four bytes in a saved state as they have in a signature.
	next, ok := merkle.Leaf(b[nextAt:])
	if !ok {
		return nil, api.ErrValue
	}
	s, err := At(b[seedAt:heightAt], int(b[heightAt]), next)
	if err != api.OK {
		// A height or a next leaf that no signer has.
		return nil, api.ErrValue
	}
	return s, api.OK
}
