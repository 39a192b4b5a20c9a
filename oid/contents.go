package oid

import (
	"math/bits"
	"strconv"
	"strings"

	"certpath/api"
)

// The contents are numbers in base 128: one for the first two arcs, and one for each further arc.
const (
	digitBits  = 7
	more       = 1 << digitBits // added to each digit that is not the last one of its number
	maxNumbers = api.MaxArcs - 1
	maxNumber  = maxFirst*seconds + api.MaxArc // the greatest first number
)

// Encode returns the contents for an object identifier.
func Encode(s string) (string, api.Errno) {
	arcs, ok := arcsOf(s)
	if !ok {
		return "", api.ErrOID
	}
	b := appendNumber(nil, seconds*arcs[0]+arcs[1])
	for _, arc := range arcs[2:] {
		b = appendNumber(b, arc)
	}
	return string(b), api.OK
}

// Decode returns the object identifier with these contents.
func Decode(c string) (string, api.Errno) {
	numbers, ok := numbersOf(c)
	if !ok {
		return "", api.ErrOID
	}
	first := min(numbers[0]/seconds, maxFirst)
	parts := []string{strconv.Itoa(first), strconv.Itoa(numbers[0] - seconds*first)}
	for _, n := range numbers[1:] {
		parts = append(parts, strconv.Itoa(n))
	}
	return strings.Join(parts, "."), api.OK
}

// appendNumber adds the digits of n to b, as few as possible.
func appendNumber(b []byte, n int) []byte {
	last := max(bits.Len(uint(n))-1, 0) / digitBits // digits before the last one
	for k := last; k > 0; k-- {
		b = append(b, byte(n>>(digitBits*k))|more)
	}
	return append(b, byte(n)&^more)
}

// numbersOf returns the numbers of which c consists, and whether they are those of an object identifier. It stops at the first digit that makes a number too great, so that many digits cannot overflow.
func numbersOf(c string) ([]int, bool) {
	var numbers []int
	limit := maxNumber
nextNumber:
	for c != "" {
		if len(numbers) == maxNumbers || c[0] == more {
			return nil, false
		}
		n := 0
		for i := range len(c) {
			n = n<<digitBits | int(c[i]&^more)
			if n > limit {
				return nil, false
			}
			if c[i] < more {
				numbers = append(numbers, n)
				c, limit = c[i+1:], api.MaxArc
				continue nextNumber
			}
		}
		return nil, false // c ends within a number
	}
	return numbers, len(numbers) > 0
}
