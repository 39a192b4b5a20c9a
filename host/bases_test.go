package host_test

import (
	"math/rand"
	"slices"
	"testing"

	"certpath/host"
)

// checkNested tests P8.6: of these bases, every two either have no name in common, or one is within the other. Each of them has some of the names.
func checkNested(t *testing.T, bases, names []string, within func(s, base string) bool) {
	t.Helper()
	has := make([][]bool, len(bases))
	for i, b := range bases {
		has[i] = make([]bool, len(names))
		for k, s := range names {
			has[i][k] = within(s, b)
		}
		if !slices.Contains(has[i], true) || !within(b, b) {
			t.Fatalf("%q has none of the names, or is not within itself", b)
		}
	}
	nested, apart := 0, 0
	for i, a := range bases {
		for j, b := range bases[:i+1] {
			common := false
			for k := range names {
				common = common || has[i][k] && has[j][k]
			}
			if common != (within(a, b) || within(b, a)) {
				t.Errorf("%q and %q: in common is %v, within each other %v and %v", a, b, common, within(a, b), within(b, a))
			}
			if common {
				nested++
			} else {
				apart++
			}
		}
	}
	if nested < len(bases) || apart < len(bases) {
		t.Errorf("only %d pairs are nested and %d apart", nested, apart)
	}
}

// domains are the DNS names of up to n labels, each of which is one of labels.
func domains(labels []string, n int) []string {
	var l []string
	last := []string{""}
	for range n {
		var next []string
		for _, s := range last {
			for _, label := range labels {
				next = append(next, label+s)
			}
		}
		l = append(l, next...)
		last = nil
		for _, s := range next {
			last = append(last, "."+s)
		}
	}
	return l
}

// TestDNSNested: P8.6, bases of DNS names, in both cases of letters.
func TestDNSNested(t *testing.T) {
	labels := []string{"a", "A", "b", "ab", "x-a", "0", "P"}
	checkNested(t, append(domains(labels, 2), "", "a.b.ab", "A.B.AB"), domains(labels, 3), host.DNSWithin)
	checkNested(t, append(domains([]string{"a", "B"}, 4), ""), append(domains([]string{"a", "B"}, 5), "*.a.a", "*.B.a"), host.DNSWithin)
}

// TestMailNested: P8.6, bases of mail addresses: addresses, names, and names behind a point.
func TestMailNested(t *testing.T) {
	var bases, names []string
	labels := []string{"a", "A", "b", "ab"}
	for _, s := range domains(labels, 2) {
		bases = append(bases, s, "."+s, "x@"+s, "X@"+s)
	}
	for _, s := range domains(labels, 3) {
		names = append(names, "x@"+s, "X@"+s, "y@"+s)
	}
	checkNested(t, bases, names, host.MailWithin)
}

// TestAddressNested: P8.6, ranges of both sizes, about a few addresses.
func TestAddressNested(t *testing.T) {
	r := rand.New(rand.NewSource(5))
	var bases, names []string
	for range 12 {
		n := []int{4, 16}[r.Intn(2)]
		a := randomBytes(r, n)
		for range 12 {
			k := r.Intn(8*n + 1)
			b := []byte(a)
			b[r.Intn(n)] ^= 1 << r.Intn(8)
			bases = append(bases, rangeOf(a, k), rangeOf(string(b), r.Intn(8*n+1)))
			names = append(names, a, cut(a, k), string(b), cut(string(b), k))
		}
	}
	for _, b := range bases {
		names = append(names, b[:len(b)/2])
	}
	checkNested(t, bases, names, host.AddressWithin)
}

// TestWithinChain: P8.6, what is within a base that is within another one is within this one too.
func TestWithinChain(t *testing.T) {
	var bases []string
	for _, s := range domains([]string{"a", "B", "b"}, 2) {
		bases = append(bases, s, "."+s, "x@"+s)
	}
	bases = append(bases, "", ".", "x", rangeOf("abcd", 8), rangeOf("abcd", 9), rangeOf("abcd", 32), rangeOf("abcd", 0), rangeOf("Abcd", 8), "abcd", rangeOf("abcdefghijklmnop", 9), rangeOf("abcdefghijklmnop", 100))
	for _, within := range []func(s, base string) bool{host.DNSWithin, host.MailWithin, host.AddressWithin} {
		for _, a := range bases {
			for _, b := range bases {
				for _, c := range bases {
					if within(a, b) && within(b, c) && !within(a, c) {
						t.Errorf("%q is within %q, that within %q, but the first is not within the last", a, b, c)
					}
				}
			}
		}
	}
}
