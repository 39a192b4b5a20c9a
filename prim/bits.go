package prim

import (
	"math/bits"

	"certpath/api"
)

const (
	firstBit  = 0x80         // bit 0 of a list in its first byte
	maxUnused = byteBits - 1 // unused bits of the last byte
	maxFlags  = 16           // bits of a list of named bits
	maxMask   = 1<<maxFlags - 1
)

// Bits returns the bytes of a bit string, and the number of unused bits at their end.
func Bits(c string) (string, int, api.Errno) {
	if c == "" {
		return "", 0, api.ErrValue
	}
	b, unused := c[1:], int(c[0])
	if unused > maxUnused || !hasUnused(b, unused) {
		return "", 0, api.ErrValue
	}
	return b, unused, api.OK
}

// PutBits returns the contents for a bit string.
func PutBits(b string, unused int) (string, api.Errno) {
	if unused < 0 || unused > maxUnused {
		return "", api.ErrRange
	}
	if !hasUnused(b, unused) {
		return "", api.ErrValue
	}
	return string([]byte{byte(unused)}) + b, api.OK
}

// Flags returns a list of named bits as a mask.
func Flags(c string) (int, api.Errno) {
	b, unused, err := Bits(c)
	if err != api.OK {
		return 0, err
	}
	count := byteBits*len(b) - unused
	if count > 0 && !isSet(b, count-1) {
		return 0, api.ErrValue
	}
	if count > maxFlags {
		return 0, api.ErrRange
	}
	mask := 0
	for k := range count {
		if isSet(b, k) {
			mask |= 1 << k
		}
	}
	return mask, api.OK
}

// PutFlags returns the contents for a mask, without zero bits at the end.
func PutFlags(mask int) (string, api.Errno) {
	if mask < 0 || mask > maxMask {
		return "", api.ErrRange
	}
	count := bits.Len(uint(mask))
	size := (count + byteBits - 1) / byteBits
	b := make([]byte, size)
	for k := range count {
		if mask>>k&1 == 1 {
			b[k/byteBits] |= firstBit >> (k % byteBits)
		}
	}
	return PutBits(string(b), byteBits*size-count)
}

// isSet reports whether bit k of the bits in b is 1.
func isSet(b string, k int) bool {
	return b[k/byteBits]&(firstBit>>(k%byteBits)) != 0
}

// hasUnused reports whether b has a byte in which so many unused bits (0 to 7) can be, and they are 0.
func hasUnused(b string, unused int) bool {
	if unused == 0 {
		return true
	}
	return b != "" && bits.TrailingZeros8(b[len(b)-1]) >= unused
}
