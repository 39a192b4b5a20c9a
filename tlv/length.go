package tlv

import "certpath/api"

// A length less than longForm is its own octet; for others the first octet is longForm plus the number of further octets.
const (
	longForm   = 0x80
	maxFurther = 3 // further octets of the greatest length
)

// readLength returns the length at the beginning of b, and the number of its octets.
func readLength(b string) (int, int, api.Errno) {
	if b == "" {
		return 0, 0, api.ErrTruncated
	}
	first := int(b[0])
	if first < longForm {
		return first, 1, api.OK
	}
	size := 1 + first - longForm
	if size == 1 || size > 1+maxFurther {
		return 0, 0, api.ErrLength
	}
	if len(b) < size {
		return 0, 0, api.ErrTruncated
	}
	length := 0
	for i := 1; i < size; i++ {
		length = length<<8 | int(b[i])
	}
	if length > api.MaxBytes || lengthSize(length) != size {
		return 0, 0, api.ErrLength
	}
	return length, size, api.OK
}

// lengthSize returns how many octets a length from 0 to MaxBytes has, as few as possible.
func lengthSize(n int) int {
	switch {
	case n < longForm:
		return 1
	case n < 1<<8:
		return 2
	case n < 1<<16:
		return 3
	}
	return 1 + maxFurther
}

// appendLength adds the octets of a length to b.
func appendLength(b []byte, n int) []byte {
	further := lengthSize(n) - 1
	if further == 0 {
		return append(b, byte(n))
	}
	b = append(b, byte(longForm+further))
	for shift := 8 * (further - 1); shift >= 0; shift -= 8 {
		b = append(b, byte(n>>shift))
	}
	return b
}

// totalLength returns how many octets the given contents have, and whether an element can have so many. It stops at the first one too many, so that the sum cannot overflow.
func totalLength(contents ...string) (int, bool) {
	length := 0
	for _, c := range contents {
		if len(c) > api.MaxBytes-length {
			return 0, false
		}
		length += len(c)
	}
	return length, true
}
