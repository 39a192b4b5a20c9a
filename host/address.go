package host

// Sizes of addresses.
const (
	short = 4
	long  = 16
)

// Address reports whether b is a network address.
func Address(b string) bool {
	return len(b) == short || len(b) == long
}

// Range reports whether b is a range of addresses: a first half, and a mask that says which of its bits the addresses have in common.
func Range(b string) bool {
	if len(b) != 2*short && len(b) != 2*long {
		return false
	}
	first, mask := halves(b)
	return isMask(mask) && masked(first, mask) == first
}

// halves divides a range.
func halves(r string) (first, mask string) {
	return r[:len(r)/2], r[len(r)/2:]
}

// isMask reports whether s has bits 1, and then only bits 0.
func isMask(s string) bool {
	ones := true // all bits so far are 1
	for i := range len(s) {
		zeros := ^s[i] // 1 where s has a bit 0: one less than a power of 2, if these are the last bits of the byte
		if zeros&(zeros+1) != 0 || !ones && s[i] != 0 {
			return false
		}
		ones = zeros == 0
	}
	return true
}

// masked returns s with bits 0 where a mask of the same size is 0.
func masked(s, mask string) string {
	b := []byte(s)
	for i := range b {
		b[i] &= mask[i]
	}
	return string(b)
}

// AddressWithin reports whether the address a, or every one of the range a, is in the range r.
func AddressWithin(a, r string) bool {
	if !Range(r) {
		return false
	}
	first, mask := halves(r)
	address := a
	switch len(a) {
	case len(r):
		var common string
		address, common = halves(a)
		if !Range(a) || masked(mask, common) != mask {
			return false
		}
		fallthrough // the rest is the same for the first half of a range as for an address
	case len(first):
		return masked(address, mask) == first
	}
	return false
}
