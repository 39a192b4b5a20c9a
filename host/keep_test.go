package host_test

import (
	"slices"
	"strings"
	"testing"
	"unsafe"

	"certpath/host"
)

// inputs are arguments of all kinds.
var inputs = []string{
	"", "a", ".", "Example.ORG", "*.Example.ORG", "mail.example.org", ".example.org", "Ann@Example.ORG", "ann@example.org", "a..b", "a@@b", "abcd", "abcdefghijklmnop", "\x0a\x00\x00\x00\xff\x00\x00\x00", "\x0a\x01\x00\x00\xff\xff\x00\x00", "\x0a\x01\x02\x03", "\x0a\x00\x00\x01\xff\x00\x00\x00",
	strings.Repeat("\x00", 32), strings.Repeat("\xff", 32), "\u212a", "\xff\xfe",
}

// callAll returns the results of all functions for two arguments.
func callAll(a, b string) []bool {
	return []bool{
		host.DNS(a), host.Pattern(a), host.Base(a), host.Mail(a), host.MailBase(a), host.Address(a), host.Range(a),
		host.DNSMatch(a, b), host.DNSWithin(a, b), host.MailMatch(a, b), host.MailWithin(a, b), host.AddressWithin(a, b),
	}
}

// view returns a string whose bytes are those of b, so that a change of one is seen in the other.
func view(b []byte) string {
	return unsafe.String(unsafe.SliceData(b), len(b))
}

// TestKeepsArguments: R3 and R4, no function changes its arguments or keeps them; what the memory of an argument holds after a call has no influence on later calls.
func TestKeepsArguments(t *testing.T) {
	for _, a := range inputs {
		for _, b := range inputs {
			want := callAll(a, b)
			x, y := []byte(a), []byte(b)
			if got := callAll(view(x), view(y)); !slices.Equal(got, want) {
				t.Errorf("the results for %q and %q are %v, want %v", a, b, got, want)
			}
			if string(x) != a || string(y) != b {
				t.Errorf("the arguments %q and %q are %q and %q after the calls", a, b, x, y)
			}
			for _, l := range [][]byte{x, y} {
				for i := range l {
					l[i] = '-'
				}
			}
			if got := callAll(a, b); !slices.Equal(got, want) {
				t.Errorf("the results for %q and %q are %v the second time, want %v", a, b, got, want)
			}
			if got, want := callAll(view(x), view(y)), callAll(strings.Repeat("-", len(a)), strings.Repeat("-", len(b))); !slices.Equal(got, want) {
				t.Errorf("the results in the memory of %q and %q are %v, want %v", a, b, got, want)
			}
		}
	}
}
