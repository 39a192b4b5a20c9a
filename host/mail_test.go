package host_test

import (
	"math/rand"
	"slices"
	"strings"
	"testing"

	"certpath/host"
)

// checkMail compares Mail and MailBase with P8.3.
func checkMail(t *testing.T, s string) {
	t.Helper()
	expect(t, host.Mail(s), modelMail(s), "Mail", s)
	expect(t, host.MailBase(s), modelMailBase(s), "MailBase", s)
}

// TestMailKnown: P8.3, mail addresses, other bases, and texts that are neither.
func TestMailKnown(t *testing.T) {
	for _, s := range []string{
		"ann@example.org", "a@b", "A@B.C", "0@0", "a.b.c@d.e", "-@a", "--@a-b", "a-@b", "-a@b", "!#$%&'*+-/=?^_`{|}~@a", "*.a@b", "*@a.b", "a*@b",
		of(64) + "@b", of(64) + "@" + domain(63), of(63) + "@" + domain(64), "a@" + domain(126), "a.b@" + short(124), strings.Repeat("a.", 31) + "aa@b", strings.Repeat("a.", 31) + "a@" + domain(64),
	} {
		expect(t, host.Mail(s), true, "Mail", s)
		expect(t, host.MailBase(s), true, "MailBase", s)
		checkMail(t, s)
	}
	for _, s := range []string{"a", "Z", "example.org", "a-b.c", of(63) + ".a", domain(128), short(128), "." + "a", ".example.org", ".a-b.c", "." + domain(127), "." + short(127)} {
		expect(t, host.Mail(s), false, "Mail", s)
		expect(t, host.MailBase(s), true, "MailBase", s)
		checkMail(t, s)
	}
	for _, s := range []string{
		"", ".", "..", "..a", "...", ".a.", ".a..b", ".-a", ".a-", ".a_b", "." + of(64), "." + domain(128), "." + short(128), domain(129), ". a", ".*.a.b", "*.a.b", "*", // no base
		"@", "@a", "a@", "@@", "a@@", "@@a", "a@@b", "a@b@", "@a@b", "a@b@c", "a@b@c@d", ".@a", "@.a", "a@.b", ".a@.b", "a@.", "a@b.", "a@b..c", "a@*.b.c", "a@*", // the parts around the @
		".a@b", "a.@b", "a..b@c", "..@b", ".a.@b", "a...b@c", "a.b..c@d", "a.b.@c", // points in local parts
		"a@-b", "a@b-", "a@b_c", "a@[1.2.3.4]", "a@" + of(64), "a@b." + of(64), "a@b.c.", "a@b.-c", // the DNS name
		of(65) + "@b", of(66) + "@b", of(65), of(128) + "@b", strings.Repeat("a.", 32) + "a@b", // local parts of more than 64 bytes
		"a@" + domain(127), "a@" + domain(128), of(64) + "@" + domain(64), of(63) + "@" + domain(65), of(64) + "@" + short(64), // more than MaxHost bytes
		"a b@c", "\"a\"@b", "a(b)@c", "<a@b>", "a,b@c", "a:b@c", "a;b@c", "a[b@c", "a]b@c", "a\\b@c", " a@b", "a @b", "a@ b", "a@b ", "a@b\n", "a@b\x00", "\x00@b", "é@b", "a@é", "a@\u212a", "\xff@a", "a@\xff", // other bytes
	} {
		expect(t, host.Mail(s), false, "Mail", s)
		expect(t, host.MailBase(s), false, "MailBase", s)
		checkMail(t, s)
	}
}

// TestMailLengths: P8.3, local parts and DNS names of every length, and bases that begin with a point.
func TestMailLengths(t *testing.T) {
	for n := range 132 {
		for k := 0; k < 132; k++ {
			name := ""
			switch {
			case k == 1:
				name = "a"
			case k > 1:
				name = domain(k)
			}
			s := of(n) + "@" + name
			want := n >= 1 && n <= 64 && k >= 1 && n+1+k <= 128
			expect(t, host.Mail(s), want, "Mail", s)
			expect(t, host.MailBase(s), want, "MailBase", s)
		}
		if n > 1 {
			expect(t, host.MailBase(domain(n)), n <= 128, "MailBase", domain(n))
			expect(t, host.MailBase("."+domain(n)), n <= 127, "MailBase", "."+domain(n))
			expect(t, host.MailBase("."+short(n)), n <= 127, "MailBase", "."+short(n))
			expect(t, host.Mail("."+short(n)), false, "Mail", "."+short(n))
		}
		expect(t, host.Mail(strings.Repeat("a.", n)+"a@b"), n <= 31, "Mail", strings.Repeat("a.", n)+"a@b")
	}
}

// TestMailBytes: P8.3, every byte in every place of local parts of one, two, three and 64 bytes, and of the DNS names behind them.
func TestMailBytes(t *testing.T) {
	long := strings.Repeat("wxyz", 16)
	for c := range 256 {
		allowed := strings.Contains(locals, one(c))
		for _, local := range []string{"x", "xy", "xyz", long} {
			for i := range len(local) {
				s := local[:i] + one(c) + local[i+1:] + "@a.b"
				want := allowed || c == '.' && i > 0 && i < len(local)-1
				expect(t, host.Mail(s), want, "Mail", s)
				expect(t, host.MailBase(s), want, "MailBase", s)
				checkMail(t, s)
			}
		}
		for _, s := range []string{"x", "xyz", "x.y", "w-x.yz"} {
			for i := range len(s) {
				changed := s[:i] + one(c) + s[i+1:]
				checkMail(t, "a@"+changed)
				checkMail(t, changed)
				checkMail(t, "."+changed)
			}
		}
		checkMail(t, one(c)+"x@a")
		checkMail(t, "x"+one(c)+"@a")
		checkMail(t, "x@"+one(c)+"a")
		checkMail(t, "x@a"+one(c))
		checkMail(t, "x.a"+one(c)+"y.b")
	}
}

// TestMailShort: P8.3, every text of up to six of the parts that matter.
func TestMailShort(t *testing.T) {
	each([]string{"a", ".", "@", "-", "*", "_", " "}, 6, func(s string) { checkMail(t, s) })
}

// TestMailDamaged: P8.3, bases in which something is missing, is added, or is something else.
func TestMailDamaged(t *testing.T) {
	for _, s := range []string{"ann@example.org", "a.b.c@d-e.f", "a@b", ".example.org", ".a", "a.b", of(64) + "@" + domain(63), "a@" + domain(126), "." + domain(127)} {
		damaged(s, func(s string) { checkMail(t, s) })
	}
}

// TestMailHuge: P8.3 and R1, texts that are much longer than an address.
func TestMailHuge(t *testing.T) {
	for _, part := range []string{"a", ".", "a.", "-", "@", "a@", "\x00", "\xff"} {
		s := strings.Repeat(part, 1<<20)
		for _, s := range []string{s, "a@" + s, s + "@a", "." + s} {
			expect(t, host.Mail(s), false, "Mail", s)
			expect(t, host.MailBase(s), false, "MailBase", s)
			expect(t, host.MailMatch(s, s), false, "MailMatch", s, s)
			expect(t, host.MailWithin(s, s), false, "MailWithin", s, s)
			expect(t, host.MailWithin(s, "a"), false, "MailWithin", s, "a")
			expect(t, host.MailWithin("a", s), false, "MailWithin", "a", s)
		}
	}
}

// modelMailMatch is P8.4 for MailMatch.
func modelMailMatch(a, b string) bool {
	localA, labelsA, okA := parts(a)
	localB, labelsB, okB := parts(b)
	return okA && okB && localA == localB && slices.Equal(labelsA, labelsB)
}

// modelMailWithin is P8.4 for MailWithin, label by label. A base that begins with a point has at least one label before those behind the point.
func modelMailWithin(s, base string) bool {
	if !modelMailBase(base) || !modelMailBase(s) {
		return false
	}
	local, labels, mail := parts(s)
	baseLocal, baseLabels, one := parts(base)
	if !mail {
		labels = strings.Split(fold(strings.TrimPrefix(s, ".")), ".")
	}
	if !one {
		baseLabels = strings.Split(fold(strings.TrimPrefix(base, ".")), ".")
	}
	switch {
	case one:
		return mail && local == baseLocal && slices.Equal(labels, baseLabels)
	case base[0] != '.':
		return (mail || s[0] != '.') && slices.Equal(labels, baseLabels)
	case !mail && s[0] == '.':
		return ending(labels, baseLabels)
	}
	return ending(labels, baseLabels) && len(labels) > len(baseLabels)
}

// checkMails compares MailMatch and MailWithin with P8.4.
func checkMails(t *testing.T, a, b string) {
	t.Helper()
	expect(t, host.MailMatch(a, b), modelMailMatch(a, b), "MailMatch", a, b)
	expect(t, host.MailWithin(a, b), modelMailWithin(a, b), "MailWithin", a, b)
}

// TestMailMatchKnown: P8.4, addresses that match, and others.
func TestMailMatchKnown(t *testing.T) {
	for _, k := range []struct {
		a, b string
		want bool
	}{
		{"ann@example.org", "ann@example.org", true}, {"ann@example.org", "ann@Example.ORG", true}, {"ann@EXAMPLE.org", "ann@example.ORG", true}, {"a@b", "a@B", true}, {"a.b@c", "a.b@C", true}, {"*@a", "*@A", true},
		{"ann@example.org", "Ann@example.org", false}, {"ann@example.org", "anN@example.org", false}, {"A@b", "a@b", false}, {"a^@b", "a~@b", false}, {"0@a", "P@a", false}, {"a@0", "a@P", false}, {"a@x-y", "a@xMy", false},
		{"ann@example.org", "ann@example.com", false}, {"ann@example.org", "bob@example.org", false}, {"ann@example.org", "ann@x.example.org", false}, {"ann@x.example.org", "ann@example.org", false}, {"ann@example.org", "an@example.org", false}, {"a@b", "a@bc", false}, {"a@b", "aa@b", false}, {"ab@c", "a@bc", false}, {"a@b", "b@a", false},
		{"", "", false}, {"a", "a", false}, {"a.b", "a.b", false}, {".a", ".a", false}, {"@a", "@a", false}, {"a@", "a@", false}, {"a@b@c", "a@b@c", false}, {"a@b.", "a@b.", false}, {".a@b", ".a@b", false}, {"a b@c", "a b@c", false}, {"a@b", "b", false}, {"a@b", "", false}, {"", "a@b", false}, {"a@b", "@b", false}, {"a@b", "a@", false}, {"a@b", "a", false}, {"a@k", "a@\u212a", false}, {"a@\u212a", "a@\u212a", false},
		{of(64) + "@" + domain(63), of(64) + "@" + other(domain(63)), true}, {of(64) + "@" + domain(64), of(64) + "@" + domain(64), false}, {of(65) + "@a", of(65) + "@a", false},
	} {
		expect(t, host.MailMatch(k.a, k.b), k.want, "MailMatch", k.a, k.b)
		expect(t, host.MailMatch(k.b, k.a), k.want, "MailMatch", k.b, k.a)
		checkMails(t, k.a, k.b)
		checkMails(t, k.b, k.a)
	}
}

// TestMailWithinKnown: P8.4, addresses and bases within bases, and others; the first two are the examples of the chapter.
func TestMailWithinKnown(t *testing.T) {
	for _, k := range []struct {
		s, base string
		want    bool
	}{
		{"ann@example.org", ".example.org", false}, {"ann@example.org", "example.org", true},
		{"ann@example.org", "ann@example.org", true}, {"ann@example.org", "ann@EXAMPLE.org", true}, {"ann@example.org", "Ann@example.org", false}, {"ann@example.org", "bob@example.org", false}, {"ann@x.example.org", "ann@example.org", false}, // an address in an address
		{"ann@EXAMPLE.org", "example.ORG", true}, {"ann@x.example.org", "example.org", false}, {"ann@example.org", "x.example.org", false}, {"ann@myexample.org", "example.org", false}, {"ann@example.org", "org", false}, {"ann@example.org", "ann", false}, // in a name
		{"ann@x.example.org", ".example.org", true}, {"ann@x.y.Example.org", ".example.ORG", true}, {"ann@example.org", ".org", true}, {"ann@myexample.org", ".example.org", false}, {"ann@org", ".org", false}, {"ann@a.org.b", ".org", false}, {"ann.x@example.org", ".example.org", false}, {"x.example.org@a", ".example.org", false}, {"a@b", ".a@b", false}, // below a name
		{"example.org", "example.org", true}, {"EXAMPLE.org", "example.ORG", true}, {"x.example.org", "example.org", false}, {"example.org", "x.example.org", false}, {"example.org", "org", false}, // a name in a name
		{"x.example.org", ".example.org", true}, {"x.y.EXAMPLE.org", ".example.Org", true}, {"example.org", ".example.org", false}, {"example.org", ".org", true}, {"myexample.org", ".example.org", false}, // a name below a name
		{".example.org", ".example.org", true}, {".EXAMPLE.org", ".example.ORG", true}, {".x.example.org", ".example.org", true}, {".example.org", ".org", true}, {".example.org", ".x.example.org", false}, {".myexample.org", ".example.org", false}, {".org", ".example.org", false}, // all below a name
		{".example.org", "example.org", false}, {".x.example.org", "example.org", false}, {".example.org", "org", false},
		{"example.org", "ann@example.org", false}, {".example.org", "ann@example.org", false}, {"ann", "ann@example.org", false}, {"org", "a@org", false}, // a base in an address
		{"", "", false}, {"ann@example.org", "", false}, {"", "example.org", false}, {"a", ".", false}, {".", ".", false}, {".", "a", false}, {"a@b", ".", false}, {"a@b", "@b", false}, {"@b", "b", false}, {"a@", "a@", false}, {"a@b.c", "..c", false}, {"..c", ".c", false}, {"a.b.", "b.", false}, {"a@b_c", "b_c", false}, {"a@b", "*.a.b", false}, {"*.a.b", ".a.b", false}, {"a@x.a.b", "*.a.b", false}, {"a@b@c", "c", false}, {"a@b@x.c", ".c", false}, {"a b@c", "c", false}, {".a@b", "b", false}, {"a.@b", "b", false}, {"a@-b", "-b", false}, {"a@" + of(64), of(64), false}, {of(65) + "@b", "b", false}, {"a@k", "\u212a", false}, {"a@\u212a", "k", false}, {"\u212a", "k", false}, {"x.\u212a", ".k", false}, // no address, or no base
		{"a@" + domain(126), domain(126), true}, {"a@" + domain(127), domain(127), false}, {"a@b." + domain(124), "." + domain(124), true}, {"a." + domain(126), "." + domain(126), true}, {"." + domain(127), "." + domain(127), true}, {"." + domain(128), "." + domain(128), false}, {domain(128), domain(128), true}, {domain(129), domain(129), false}, {"a." + domain(127), "." + domain(127), false}, {of(64) + "@b", "b", true},
		{"a@0", "P", false}, {"a@x.0", ".P", false}, {"0", "P", false}, {"x.0", ".P", false}, {".0", ".P", false}, {"a@x-y", "xMy", false}, // bytes that differ by 32
	} {
		expect(t, host.MailWithin(k.s, k.base), k.want, "MailWithin", k.s, k.base)
		checkMails(t, k.s, k.base)
	}
}

// mails are addresses and other bases, and texts that are neither.
func mails() []string {
	var l []string
	each([]string{"a", "B", ".", "@"}, 5, func(s string) { l = append(l, s) })
	return slices.DeleteFunc(l, func(s string) bool {
		return strings.Count(s, "@") > 1 && len(s) > 3 || strings.Contains(s, "..") && len(s) > 3
	})
}

// TestMailPairs: P8.4, every pair of short texts.
func TestMailPairs(t *testing.T) {
	l := mails()
	for _, a := range l {
		for _, b := range l {
			if len(a)+len(b) < 9 || host.MailBase(a) && host.MailBase(b) {
				checkMails(t, a, b)
			}
		}
	}
}

// TestMailRandom: P8.4, random addresses and bases, and bases that are made from them.
func TestMailRandom(t *testing.T) {
	r := rand.New(rand.NewSource(2))
	few := []string{"", "", ".", "a@", "A@", "a.b@", "*@", "@", ".a@"}
	within := 0
	for range 40000 {
		d := randomDNS(r)
		s := few[r.Intn(len(few))] + d
		base := few[r.Intn(len(few))] + randomDNS(r)
		switch r.Intn(4) {
		case 0:
			base = s[r.Intn(len(s)):]
		case 1:
			base = few[r.Intn(len(few))] + d
		case 2:
			base = "." + d
			s = few[r.Intn(len(few))] + randomDNS(r) + "." + d
		}
		if r.Intn(2) == 0 {
			base = other(base)
		}
		checkMails(t, s, base)
		checkMails(t, base, s)
		if host.MailWithin(s, base) {
			within++
		}
	}
	if within < 5000 {
		t.Errorf("only %d pairs are within each other", within)
	}
}

// TestMailBytesPairs: P8.4, texts in which one byte is any other one: nothing that is not valid matches or is within anything.
func TestMailBytesPairs(t *testing.T) {
	for c := range 256 {
		for _, s := range []string{"a" + one(c) + "b@c", "a@b" + one(c) + "c", one(c) + "a@b", "a@b" + one(c), "a" + one(c) + "b", one(c) + "b", "." + one(c) + "b", "x." + one(c)} {
			for _, base := range []string{s, other(s), "c", "b", ".c", ".b", "a@b", "ab@c", "b" + one(c) + "c", "." + one(c^32) + "b", "x." + one(c^32), "." + one(c), "a" + one(c^32) + "b@c", "a@b" + one(c^32) + "c", strings.ToUpper(s), strings.ToLower(s)} {
				checkMails(t, s, base)
				checkMails(t, base, s)
			}
		}
	}
}

// TestMailMeaning: P8.4 (its last part), a base is within another one exactly if every mail address within it is, over all addresses of a few labels.
func TestMailMeaning(t *testing.T) {
	var addresses, bases []string
	each([]string{"a", "b", "."}, 6, func(s string) {
		if !host.DNS(s) || strings.Contains(s, "aa") || strings.Contains(s, "bb") || strings.Contains(s, "ab") || strings.Contains(s, "ba") {
			return
		}
		addresses = append(addresses, "x@"+s, "y@"+s)
		if len(s) < 4 {
			bases = append(bases, s, "."+s, "x@"+s)
		}
	})
	for _, s := range bases {
		for _, base := range bases {
			all, some := true, false
			for _, a := range addresses {
				in := host.MailWithin(a, s)
				some = some || in
				all = all && (!in || host.MailWithin(a, base))
			}
			if !some {
				t.Fatalf("no address is within %q", s)
			}
			expect(t, host.MailWithin(s, base), all, "MailWithin", s, base)
		}
	}
}
