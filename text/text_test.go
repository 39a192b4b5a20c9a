package text_test

import "math/rand"

// bytes are all bytes.
func bytes() string {
	b := make([]byte, 256)
	for c := range b {
		b[c] = byte(c)
	}
	return string(b)
}

// one returns the string that is one byte.
func one(c int) string {
	return string([]byte{byte(c)})
}

// each calls f with every string of up to n parts, each of which is one of parts.
func each(parts []string, n int, f func(s string)) {
	var extend func(s string, left int)
	extend = func(s string, left int) {
		f(s)
		if left == 0 {
			return
		}
		for _, p := range parts {
			extend(s+p, left-1)
		}
	}
	extend("", n)
}

// random returns a string of fewer than n parts, each of which is one of parts.
func random(r *rand.Rand, parts []string, n int) string {
	s := ""
	for range r.Intn(n) {
		s += parts[r.Intn(len(parts))]
	}
	return s
}
