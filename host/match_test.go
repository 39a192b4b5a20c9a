package host_test

import (
	"math/rand"
	"slices"
	"strings"
	"testing"

	"certpath/host"
)

// modelDNSMatch is P8.2 for DNSMatch, label by label.
func modelDNSMatch(pattern, s string) bool {
	if !modelPattern(pattern) || !modelDNS(s) {
		return false
	}
	p, l := strings.Split(fold(pattern), "."), strings.Split(fold(s), ".")
	if p[0] == "*" {
		l[0] = "*"
	}
	return slices.Equal(p, l)
}

// modelDNSWithin is P8.2 for DNSWithin, label by label.
func modelDNSWithin(s, base string) bool {
	if s != "" && !modelPattern(s) || !modelBase(base) {
		return false
	}
	return base == "" || ending(strings.Split(fold(s), "."), strings.Split(fold(base), "."))
}

// checkPair compares DNSMatch and DNSWithin with P8.2.
func checkPair(t *testing.T, a, b string) {
	t.Helper()
	expect(t, host.DNSMatch(a, b), modelDNSMatch(a, b), "DNSMatch", a, b)
	expect(t, host.DNSWithin(a, b), modelDNSWithin(a, b), "DNSWithin", a, b)
}

// TestDNSMatchKnown: P8.2, names that patterns match, and names that they do not.
func TestDNSMatchKnown(t *testing.T) {
	for _, k := range []struct {
		pattern, s string
		want       bool
	}{
		{"a", "a", true}, {"a", "A", true}, {"A", "a", true}, {"example.org", "EXAMPLE.org", true}, {"a-1.b", "A-1.B", true}, {"a", "b", false}, {"a.b", "a", false}, {"a", "a.b", false}, {"a.b", "b", false}, {"a.b", "b.a", false}, {"a.b", "ab", false},
		{"*.a.b", "x.a.b", true}, {"*.a.b", "X.A.B", true}, {"*.A.b", "x.a.B", true}, {"*.a.b", "a.a.b", true}, {"*.a.b", "x-y.a.b", true}, {"*.a.b", of(63) + ".a.b", true}, {"*.a.b.c", "x.a.b.c", true},
		{"*.a.b", "a.b", false}, {"*.a.b", "x.y.a.b", false}, {"*.a.b", "xa.b", false}, {"*.a.b", "x.b", false}, {"*.a.b", "x.a", false}, {"*.a.b", "x.a.c", false}, {"*.a.b", "x.ya.b", false}, {"*.a.b", "x.a.b.c", false}, {"*.a.b", "b", false}, {"*.a.b", "x", false},
		{"x.a.b", "*.a.b", false}, {"*.a.b", "*.a.b", false}, {"a.b", "*.a.b", false}, // s is no name
		{"*.a", "x.a", false}, {"*", "x", false}, {"*.", "x.", false}, {"*.*.a", "x.y.a", false}, {"a.*.b", "a.x.b", false}, {"", "", false}, {"", "a", false}, {"a", "", false}, {"*.a.b", "", false}, {"*.a.b", ".a.b", false}, // no pattern, or no name
		{"a_b", "a_b", false}, {"a.", "a.", false}, {".a", ".a", false}, {"-a", "-a", false}, {"*.a.b", "x_.a.b", false}, {"*.a.b", "-.a.b", false}, {"*.a.b", of(64) + ".a.b", false}, {"a b", "a b", false}, {domain(129), domain(129), false}, {"\u212a", "k", false}, {"k", "\u212a", false}, {"s", "\u017f", false}, {"*.k.s", "x.\u212a.\u017f", false},
		{domain(128), domain(128), true}, {"*." + domain(126), "*." + domain(126), false}, {"*." + domain(126), "x." + domain(126), true}, {"*." + domain(126), "xy." + domain(126), false}, {"*." + domain(125), "xy." + domain(125), true},
		{"0", "P", false}, {"P", "0", false}, {"a-b", "aMb", false}, {"9", "Y", false}, {"*.0.a", "x.P.a", false}, // bytes that differ by 32
	} {
		expect(t, host.DNSMatch(k.pattern, k.s), k.want, "DNSMatch", k.pattern, k.s)
		checkPair(t, k.pattern, k.s)
	}
}

// TestDNSWithinKnown: P8.2, names within bases, and others; the first two are the examples of the chapter.
func TestDNSWithinKnown(t *testing.T) {
	for _, k := range []struct {
		s, base string
		want    bool
	}{
		{"Mail.Example.org", "example.org", true}, {"myexample.org", "example.org", false},
		{"example.org", "example.org", true}, {"example.org", "EXAMPLE.ORG", true}, {"example.org", "org", true}, {"a.b.c.d", "D", true}, {"a.b.c.d", "c.D", true}, {"a.b.c.d", "a.b.c.d", true}, {"a", "a", true},
		{"example.org", "xample.org", false}, {"example.org", "rg", false}, {"org", "example.org", false}, {"example.org", "example", false}, {"example.org", "example.com", false}, {"a.b", "a", false}, {"a.b.c", "a.b", false}, {"a.b.c", "a.c", false}, {"a", "b", false}, {"a-b", "b", false}, {"ab", "b", false},
		{"", "", true}, {"a", "", true}, {"*.a.b", "", true}, {domain(128), "", true}, {"", "a", false}, {"", "org", false},
		{"*.a.b", "a.b", true}, {"*.A.b", "a.B", true}, {"*.a.b", "b", true}, {"*.a.b.c", "b.c", true}, {"*.a.b", "a", false}, {"*.a.b", "x.a.b", false}, {"*.xa.b", "a.b", false},
		{"*.a.b", "*.a.b", false}, {"x.a.b", "*.a.b", false}, {"", "*.a.b", false}, {"*.a.b", ".a.b", false}, {"x.a.b", ".a.b", false}, {"a.b", ".a.b", false}, {"a", ".", false}, {"", ".", false}, {"a", "a.", false}, {"a.", "a.", false}, {"a.b", ".", false}, // no base
		{"*.a", "a", false}, {"*", "", false}, {"*.a", "", false}, {".", "", false}, {".a", "a", false}, {"a.", "", false}, {"a..b", "b", false}, {"a_.b", "b", false}, {"-a.b", "b", false}, {"a.*.b", "b", false}, {"\x00", "", false}, {of(64), "", false}, {domain(129), "", false}, {domain(129), "a", false}, {"x." + of(64), of(64), false}, // no pattern
		{"x@a.b", "a.b", false}, {"a.b", "x@a.b", false}, {"k", "\u212a", false}, {"\u212a", "", false},
		{domain(128), domain(128), true}, {domain(128), domain(129), false}, {"x." + domain(126), domain(126), true}, {"*." + domain(126), domain(126), true}, {"*." + domain(127), domain(127), false},
		{"a.0", "P", false}, {"a.P", "0", false}, {"x-y", "xMy", false}, {"x.a-b", "aMb", false}, {"x.9", "Y", false}, // bytes that differ by 32
	} {
		expect(t, host.DNSWithin(k.s, k.base), k.want, "DNSWithin", k.s, k.base)
		checkPair(t, k.s, k.base)
	}
}

// texts are all texts of up to n of some parts, and long ones.
func texts(n int) []string {
	var l []string
	each([]string{"a", "B", ".", "*."}, n, func(s string) { l = append(l, s) })
	return append(l, "-", "a-", "_", "A-b", "a-B.a", "@", "a@b", "\xff", domain(128), domain(129), "*."+domain(126), "*."+domain(127), "a."+domain(126), "b."+domain(127))
}

// TestDNSPairs: P8.2, every pair of short texts.
func TestDNSPairs(t *testing.T) {
	l := texts(4)
	for _, a := range l {
		for _, b := range l {
			checkPair(t, a, b)
		}
	}
}

// TestDNSCase: P8.2, every two bytes of labels: they are the same ignoring case exactly if they are the same letter.
func TestDNSCase(t *testing.T) {
	for _, c := range letters + digits + "-" {
		for _, d := range letters + digits + "-" {
			want := strings.ToLower(string(c)) == strings.ToLower(string(d))
			a, b := "x"+string(c)+"y", "x"+string(d)+"y"
			for _, k := range []struct {
				function string
				got      bool
			}{
				{"DNSMatch", host.DNSMatch(a, b)}, {"DNSMatch below *", host.DNSMatch("*."+a+".org", "z."+b+".ORG")}, {"DNSWithin", host.DNSWithin(a, b)}, {"DNSWithin below", host.DNSWithin("z."+a, b)},
				{"MailMatch", host.MailMatch("z@"+a, "z@"+b)}, {"MailWithin a name", host.MailWithin("z@"+a, b)}, {"MailWithin a point", host.MailWithin("z@z."+a, "."+b)}, {"MailWithin of bases", host.MailWithin("z."+a, "."+b)}, {"MailWithin of equal bases", host.MailWithin("."+a, "."+b)}, {"MailWithin an address", host.MailWithin("z@"+a, "z@"+b)},
			} {
				expect(t, k.got, want, k.function, a, b)
			}
		}
	}
}

// TestDNSBytesPairs: P8.2, names in which one byte is any other one: nothing that is not valid matches or is within anything.
func TestDNSBytesPairs(t *testing.T) {
	for c := range 256 {
		for _, s := range []string{"a" + one(c) + "b.c", one(c) + ".a.b", "a.b" + one(c), one(c), "*." + one(c) + ".a", "*" + one(c) + "a.b"} {
			for _, base := range []string{s, other(s), "", "b", "c", "a.b", "b.c", "x." + s, "*.a.b", "*.b.c", one(c ^ 32), "a" + one(c^32) + "b.c", strings.ToUpper(s), strings.ToLower(s)} {
				checkPair(t, s, base)
				checkPair(t, base, s)
			}
		}
	}
}

// TestDNSRandom: P8.2, random names and patterns, and bases that are made from them.
func TestDNSRandom(t *testing.T) {
	r := rand.New(rand.NewSource(1))
	within := 0
	for range 30000 {
		s, base := randomDNS(r), randomDNS(r)
		switch r.Intn(4) {
		case 0:
			s = "*." + s
		case 1:
			base = s[r.Intn(len(s)):]
		case 2:
			s += "." + base
		}
		if r.Intn(2) == 0 {
			base = other(base)
		}
		checkPair(t, s, base)
		checkPair(t, base, s)
		if host.DNSWithin(s, base) {
			within++
		}
		if host.DNSMatch("*."+base, "x."+s) != (host.DNSMatch(base, s) && strings.Contains(s, ".")) {
			t.Errorf("DNSMatch(%q, %q) is not as without the first labels", "*."+base, "x."+s)
		}
	}
	if within < 5000 {
		t.Errorf("only %d pairs are within each other", within)
	}
}

// TestDNSMatchesWithin: P8.2 (with the meaning of patterns), a pattern is within a base exactly if every name that it matches is.
func TestDNSMatchesWithin(t *testing.T) {
	names := []string{}
	each([]string{"a", "B.", "a.", "b"}, 5, func(s string) { names = append(names, s) })
	bases := slices.DeleteFunc(slices.Clone(names), func(s string) bool { return !host.Base(s) || len(s) > 5 })
	for _, pattern := range []string{"*.a.b", "*.b.a", "*.a.a", "*.b.b", "*.aa.b", "a.b", "a", "B"} {
		for _, base := range bases {
			all := true
			for _, s := range names {
				all = all && (!host.DNSMatch(pattern, s) || host.DNSWithin(s, base))
			}
			expect(t, host.DNSWithin(pattern, base), all, "DNSWithin", pattern, base)
		}
	}
}
