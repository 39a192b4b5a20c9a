package text

import (
	"strings"
)

const (
	backslash = '\\'
	hexDigits = "0123456789abcdef"
	hexBits   = 4
	pair      = 2             // digits behind a backslash
	plain     = " '()-./:?@_" // what Escape leaves as it is, besides letters and digits
)

// Escape returns s with a backslash and two digits for each byte that is not plain.
func Escape(s string) string {
	b := make([]byte, 0, len(s))
	for i := range len(s) {
		if isPlain(s[i]) {
			b = append(b, s[i])
		} else {
			b = append(b, backslash, hexDigits[s[i]>>hexBits], hexDigits[s[i]&(1<<hexBits-1)])
		}
	}
	return string(b)
}

// Unescape returns the string whose Escape is s, if there is one.
func Unescape(s string) (string, bool) {
	b := make([]byte, 0, len(s))
	for i := 0; i < len(s); i++ {
		c, ok := s[i], isPlain(s[i])
		if c == backslash {
			c, ok = escaped(s[i+1:])
			i += pair
		}
		if !ok {
			return "", false
		}
		b = append(b, c)
	}
	return string(b), true
}

// escaped returns the byte that the digits at the beginning of s are, and whether Escape writes it so: a plain byte is never written as digits.
func escaped(s string) (byte, bool) {
	if len(s) < pair {
		return 0, false
	}
	high, low := strings.IndexByte(hexDigits, s[0]), strings.IndexByte(hexDigits, s[1])
	if high < 0 || low < 0 {
		return 0, false
	}
	c := byte(high<<hexBits | low)
	return c, !isPlain(c)
}

// isPlain reports whether Escape leaves a byte as it is.
func isPlain(c byte) bool {
	return isAlphanumeric(rune(c)) || strings.IndexByte(plain, c) >= 0
}
