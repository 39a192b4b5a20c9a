package host_test

import (
	"math/rand"
	"regexp"
	"strings"
	"testing"

	"certpath/api"
)

const (
	letters = "ABCDEFGHIJKLMNOPQRSTUVWXYZabcdefghijklmnopqrstuvwxyz"
	digits  = "0123456789"
	locals  = letters + digits + "!#$%&'*+-/=?^_`{|}~" // the bytes of local parts, without the point
)

// one returns the string that is one byte.
func one(c int) string {
	return string([]byte{byte(c)})
}

// each calls f with every string of up to n parts, each of which is one of parts.
func each(parts []string, n int, f func(s string)) {
	var extend func(s string, left int)
	extend = func(s string, left int) {
		f(s)
		if left == 0 {
			return
		}
		for _, p := range parts {
			extend(s+p, left-1)
		}
	}
	extend("", n)
}

// of returns n bytes of a label.
func of(n int) string {
	return strings.Repeat("a", n)
}

// domain returns a DNS name of n bytes, whose labels are as long as they can be.
func domain(n int) string {
	s := ""
	for n > 65 {
		s += of(63) + "."
		n -= 64
	}
	if n > 63 {
		s += "b."
		n -= 2
	}
	return s + of(n)
}

// short returns a DNS name of n bytes, whose labels are as short as they can be.
func short(n int) string {
	if n%2 == 0 {
		return "aa" + strings.Repeat(".a", n/2-1)
	}
	return "a" + strings.Repeat(".a", n/2)
}

// other returns s with all letters in the other case.
func other(s string) string {
	b := []byte(s)
	for i, c := range b {
		if strings.Contains(letters, one(int(c))) {
			b[i] = c ^ 32
		}
	}
	return string(b)
}

// fold returns s with small letters.
func fold(s string) string {
	b := []byte(s)
	for i, c := range b {
		if k := strings.Index(letters, one(int(c))); k >= 0 {
			b[i] = letters[26+k%26]
		}
	}
	return string(b)
}

var (
	nameForm    = regexp.MustCompile(`^[A-Za-z0-9]([A-Za-z0-9-]*[A-Za-z0-9])?(\.[A-Za-z0-9]([A-Za-z0-9-]*[A-Za-z0-9])?)*$`)
	patternForm = regexp.MustCompile(`^\*\.([^.]*\..*)$`)
	mailForm    = regexp.MustCompile("^([A-Za-z0-9!#$%&'*+/=?^_`{|}~-]+(?:\\.[A-Za-z0-9!#$%&'*+/=?^_`{|}~-]+)*)@(.*)$")
)

// modelDNS is P8.1 for DNS.
func modelDNS(s string) bool {
	if len(s) > api.MaxHost || !nameForm.MatchString(s) {
		return false
	}
	for _, label := range strings.Split(s, ".") {
		if len(label) > 63 {
			return false
		}
	}
	return true
}

// modelPattern is P8.1 for Pattern.
func modelPattern(s string) bool {
	p := patternForm.FindStringSubmatch(s)
	return modelDNS(s) || p != nil && modelDNS(p[1]) && len(s) <= api.MaxHost
}

// modelBase is P8.1 for Base.
func modelBase(s string) bool {
	return s == "" || modelDNS(s)
}

// parts returns the local part and the labels of a mail address, by P8.3, and whether s is one.
func parts(s string) (local string, labels []string, ok bool) {
	p := mailForm.FindStringSubmatch(s)
	if p == nil || len(s) > api.MaxHost || len(p[1]) > 64 || !modelDNS(p[2]) {
		return "", nil, false
	}
	return p[1], strings.Split(fold(p[2]), "."), true
}

// modelMail is P8.3 for Mail.
func modelMail(s string) bool {
	_, _, ok := parts(s)
	return ok
}

// modelMailBase is P8.3 for MailBase.
func modelMailBase(s string) bool {
	if strings.HasPrefix(s, ".") {
		return modelDNS(s[1:]) && len(s) < 129
	}
	return modelDNS(s) || modelMail(s)
}

// ending reports whether the labels of base are the last ones of s.
func ending(s, base []string) bool {
	if len(base) > len(s) {
		return false
	}
	for i := range base {
		if base[len(base)-1-i] != s[len(s)-1-i] {
			return false
		}
	}
	return true
}

// randomDNS returns a DNS name of few bytes.
func randomDNS(r *rand.Rand) string {
	few := []string{"a", "A", "b", "B", "ab", "aB", "a-b", "0", "P", "a0", "x--y", "org", "Org", "example"}
	s := few[r.Intn(len(few))]
	for range r.Intn(4) {
		s += "." + few[r.Intn(len(few))]
	}
	return s
}

// damaged calls f with s with each byte missing, each byte twice, and each byte replaced by some others; and with s cut off and extended.
func damaged(s string, f func(s string)) {
	for i := range len(s) {
		f(s[:i])
		f(s[i:])
		f(s[:i] + s[i+1:])
		f(s[:i+1] + s[i:])
		for _, c := range []string{".", "-", "@", "*", "*.", "a", " ", "_", "0", "\x00", "\x80", "\xff", "[", "`", "{", "/", ":", "\n", "\u212a"} {
			f(s[:i] + c + s[i+1:])
			f(s[:i] + c + s[i:])
		}
	}
	for _, c := range []string{".", "-", "@", "*", "a", "\n", "\x00"} {
		f(s + c)
	}
}

// expect reports a result that is not the one wanted.
func expect(t *testing.T, got, want bool, function string, arguments ...string) {
	t.Helper()
	if got != want {
		t.Errorf("%s(%.150q) is %v", function, arguments, got)
	}
}
