package hash

const hexDigits = "0123456789abcdef"

// Hex returns the bytes of b as hexadecimal digits.
func Hex(b string) string {
	out := make([]byte, 0, 2*len(b))
	for i := range len(b) {
		out = append(out, hexDigits[b[i]>>4], hexDigits[b[i]&15])
	}
	return string(out)
}

// Unhex returns the string whose Hex is s, if there is one.
func Unhex(s string) (string, bool) {
	if len(s)%2 != 0 {
		return "", false
	}
	out := make([]byte, 0, len(s)/2)
	for i := 0; i < len(s); i += 2 {
		high, ok1 := digitValue(s[i])
		low, ok2 := digitValue(s[i+1])
		if !ok1 || !ok2 {
			return "", false
		}
		out = append(out, high<<4|low)
	}
	return string(out), true
}

// digitValue returns the value of a digit that Hex writes; capital letters are none.
func digitValue(c byte) (byte, bool) {
	switch {
	case '0' <= c && c <= '9':
		return c - '0', true
	case 'a' <= c && c <= 'f':
		return c - 'a' + 10, true
	}
	return 0, false
}
