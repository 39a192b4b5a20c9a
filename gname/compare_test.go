package gname_test

import (
	"math/rand"
	"strings"
	"testing"

	"certpath/api"
	"certpath/dname"
	"certpath/gname"
	"certpath/host"
)

// smallLetters makes the letters A to Z small, byte by byte.
var smallLetters = strings.NewReplacer("A", "a", "B", "b", "C", "c", "D", "d", "E", "e", "F", "f", "G", "g", "H", "h", "I", "i", "J", "j", "K", "k", "L", "l", "M", "m",
	"N", "n", "O", "o", "P", "p", "Q", "q", "R", "r", "S", "s", "T", "t", "U", "u", "V", "v", "W", "w", "X", "x", "Y", "y", "Z", "z")

// modelSame is P9.4 for Same.
func modelSame(a, b api.GeneralName) bool {
	folded := smallLetters.Replace(a.Text) == smallLetters.Replace(b.Text)
	both := host.Mail(a.Text) && host.Mail(b.Text)
	return a.Kind == b.Kind && (a.Kind == kindMail && both && host.MailMatch(a.Text, b.Text) ||
		a.Kind == kindMail && !both && folded ||
		a.Kind == kindDNS && folded ||
		a.Kind == kindDirectory && dname.Match(a.Name, b.Name) ||
		a.Kind == kindAddress && a.Text == b.Text)
}

// modelMatch is P9.4 for Match.
func modelMatch(have, want api.GeneralName) bool {
	if have.Kind == kindDNS {
		return want.Kind == kindDNS && host.DNSMatch(have.Text, want.Text)
	}
	return modelSame(have, want)
}

// modelWithin is P9.4 for Within.
func modelWithin(g, base api.GeneralName) bool {
	return g.Kind == base.Kind && (g.Kind == kindMail && host.MailWithin(g.Text, base.Text) ||
		g.Kind == kindDNS && host.DNSWithin(g.Text, base.Text) ||
		g.Kind == kindDirectory && dname.Within(g.Name, base.Name) ||
		g.Kind == kindAddress && host.AddressWithin(g.Text, base.Text))
}

// checkPair compares Same, Match and Within with P9.4.
func checkPair(t *testing.T, a, b api.GeneralName) {
	t.Helper()
	if want := modelSame(a, b); gname.Same(a, b) != want {
		t.Errorf("Same(%s, %s) is %v", show(a), show(b), !want)
	}
	if want := modelMatch(a, b); gname.Match(a, b) != want {
		t.Errorf("Match(%s, %s) is %v", show(a), show(b), !want)
	}
	if want := modelWithin(a, b); gname.Within(a, b) != want {
		t.Errorf("Within(%s, %s) is %v", show(a), show(b), !want)
	}
}

// TestSameKnown: P9.4, names of one kind that are the same, and names that are not, in both directions.
func TestSameKnown(t *testing.T) {
	for _, k := range []struct {
		kind int
		a, b string
		want bool
	}{
		{kindMail, "ann@example.org", "ann@example.org", true}, {kindMail, "ann@example.org", "ann@EXAMPLE.org", true}, {kindMail, "ann@example.org", "Ann@example.org", false}, {kindMail, "ann@example.org", "bob@example.org", false}, {kindMail, "ann@example.org", "ann@www.example.org", false}, {kindMail, "ann@example.org", "example.org", false},
		{kindMail, "example.org", "Example.ORG", true}, {kindMail, ".example.org", ".EXAMPLE.org", true}, {kindMail, "example.org", ".example.org", false}, {kindMail, "", "", true}, {kindMail, "", "a", false}, // bases, and no text
		{kindMail, "Ann@x_y", "ann@X_Y", true}, {kindMail, "A B@c", "a b@C", true}, {kindMail, "@", "@", true}, {kindMail, "A@b@c", "a@B@C", true}, {kindMail, "A@", "a@", true}, {kindMail, "a@", "a@b", false}, {kindMail, "ann", "ANN", true}, // no mail addresses: the local part ignores case too
		{kindMail, long(127) + "@A", long(127) + "@a", true}, {kindMail, "A@" + long(127), "a@" + long(127), true}, {kindMail, "A@" + long(126), "a@" + long(126), false},
		{kindMail, "é", "É", false}, {kindMail, "\u212a", "k", false}, {kindMail, "\xff", "\xfe", false}, {kindMail, "@", "`", false}, {kindMail, "[", "{", false},

		{kindDNS, "example.org", "example.org", true}, {kindDNS, "example.org", "EXAMPLE.Org", true}, {kindDNS, "example.org", "example.com", false}, {kindDNS, "example.org", "www.example.org", false}, {kindDNS, "*.example.org", "*.EXAMPLE.org", true}, {kindDNS, "*.example.org", "www.example.org", false}, {kindDNS, "*.example.org", "example.org", false},
		{kindDNS, "", "", true}, {kindDNS, "", "a", false}, {kindDNS, "a..B", "A..b", true}, {kindDNS, "a", "a.", false}, {kindDNS, "A@b", "a@b", true}, {kindDNS, "a b", "a  b", false}, {kindDNS, " a", "a", false}, {kindDNS, long(129), strings.ToUpper(long(129)), true}, // also texts that are no names
		{kindDNS, "é", "É", false}, {kindDNS, "É", "É", true}, {kindDNS, "\u212a", "k", false}, {kindDNS, "\u212a", "\u212a", true}, {kindDNS, "\u017f", "S", false}, {kindDNS, "\xff", "\xfe", false}, {kindDNS, "\xff", "\xef\xbf\xbd", false}, {kindDNS, "\x00", " ", false}, {kindDNS, "@", "`", false}, {kindDNS, "[", "{", false}, {kindDNS, "ÀA", "Àa", true},

		{kindAddress, home, home, true}, {kindAddress, home, "\x7f\x00\x00\x02", false}, {kindAddress, six, six, true}, {kindAddress, home, ten, false}, {kindAddress, ten, ten, true}, {kindAddress, ten, tenOne, false}, {kindAddress, zeros(4), zeros(16), false}, {kindAddress, zeros(4), zeros(8), false},
		{kindAddress, "abcd", "ABCD", false}, {kindAddress, "ABCD", "ABCD", true}, {kindAddress, "", "", true}, {kindAddress, "a", "a", true}, {kindAddress, "a", "A", false}, {kindAddress, "", "\x00", false}, {kindAddress, ten[:7] + "\x01", ten, false},
	} {
		a, b := api.GeneralName{Kind: k.kind, Text: k.a}, api.GeneralName{Kind: k.kind, Text: k.b}
		if gname.Same(a, b) != k.want || gname.Same(b, a) != k.want {
			t.Errorf("Same(%s, %s) is %v", show(a), show(b), !k.want)
		}
		if k.kind != kindDNS && (gname.Match(a, b) != k.want || gname.Match(b, a) != k.want) {
			t.Errorf("Match(%s, %s) is %v", show(a), show(b), !k.want)
		}
		checkPair(t, a, b)
		checkPair(t, b, a)
	}
	for _, k := range []struct {
		a, b api.Name
		want bool
	}{
		{api.Name{}, api.Name{}, true}, {api.Name{}, api.Name{RDNs: [][]api.Attribute{}}, true}, {api.Name{}, name(cn("a")), false}, {name(cn("a b")), name(cn(" A  B ")), true}, {name(cn("a")), name(cn("b")), false}, {name(cn("a")), name(cn("a"), cn("b")), false}, {name(cn("a"), cn("b")), name(cn("b"), cn("a")), false},
		{good[8], good[9], true}, {good[8], good[4], false}, {name(nil), name(nil), true}, {name(nil), api.Name{}, false}, {bad[api.ErrOID], bad[api.ErrOID], true}, {bad[api.ErrOID], bad[api.ErrString], false},
	} {
		a, b := dirName(k.a), dirName(k.b)
		if gname.Same(a, b) != k.want || gname.Same(b, a) != k.want || gname.Match(a, b) != k.want || gname.Match(b, a) != k.want {
			t.Errorf("Same or Match of %s and %s is not %v", show(a), show(b), k.want)
		}
		checkPair(t, a, b)
		checkPair(t, b, a)
	}
}

// TestMatchKnown: P9.4, patterns on either side, and texts that are no DNS names.
func TestMatchKnown(t *testing.T) {
	for _, k := range []struct {
		have, want string
		match      bool
	}{
		{"*.example.org", "www.example.org", true}, {"*.example.org", "WWW.Example.ORG", true}, {"*.EXAMPLE.org", "www.example.org", true}, {"*.example.org", "example.org", false}, {"*.example.org", "a.b.example.org", false}, {"*.example.org", "www.example.com", false},
		{"www.example.org", "*.example.org", false}, {"*.example.org", "*.example.org", false}, {"*.example.org", "*.b.example.org", false}, {"example.org", "example.org", true}, {"example.org", "EXAMPLE.org", true}, {"example.org", "www.example.org", false},
		{"", "", false}, {"", "a", false}, {"a", "", false}, {"a..b", "a..b", false}, {"*.b", "a.b", false}, {"*", "a", false}, {"a_b", "a_b", false}, {".a", ".a", false}, {"a@b", "a@b", false}, {long(128), long(128), true}, {long(129), long(129), false},
	} {
		have, want := dnsName(k.have), dnsName(k.want)
		if gname.Match(have, want) != k.match {
			t.Errorf("Match(%s, %s) is %v", show(have), show(want), !k.match)
		}
		checkPair(t, have, want)
		for _, other := range []int{kindMail, kindAddress, kindDirectory, 0, 3} { // a pattern is one only in a DNS name
			a, b := api.GeneralName{Kind: other, Text: k.have}, api.GeneralName{Kind: other, Text: k.want}
			checkPair(t, a, b)
			if gname.Match(have, b) || gname.Match(a, want) {
				t.Errorf("Match of %q and %q is true for a DNS name and the kind %d", k.have, k.want, other)
			}
			if strings.HasPrefix(k.have, "*") && k.have != k.want && other != kindDirectory && gname.Match(a, b) {
				t.Errorf("Match(%s, %s) is true", show(a), show(b))
			}
		}
	}
}

// TestWithinKnown: P9.4, names in bases, bases in bases, and texts that are neither.
func TestWithinKnown(t *testing.T) {
	for _, k := range []struct {
		kind    int
		g, base string
		want    bool
	}{
		{kindMail, "ann@example.org", "example.org", true}, {kindMail, "ann@example.org", ".example.org", false}, {kindMail, "ann@www.example.org", ".example.org", true}, {kindMail, "ann@example.org", "ann@EXAMPLE.org", true}, {kindMail, "Ann@example.org", "ann@example.org", false}, {kindMail, "example.org", "EXAMPLE.org", true}, {kindMail, "www.example.org", ".example.org", true}, {kindMail, ".www.example.org", ".example.org", true}, {kindMail, ".example.org", ".www.example.org", false}, {kindMail, "example.org", "ann@example.org", false}, {kindMail, "ann@example.org", "", false}, {kindMail, "", "", false},
		{kindDNS, "example.org", "example.org", true}, {kindDNS, "www.Example.org", "example.ORG", true}, {kindDNS, "example.org", "www.example.org", false}, {kindDNS, "myexample.org", "example.org", false}, {kindDNS, "*.example.org", "example.org", true}, {kindDNS, "*.example.org", "*.example.org", false}, {kindDNS, "a", "", true}, {kindDNS, "", "", true}, {kindDNS, "", "a", false}, {kindDNS, "a..b", "", false}, {kindDNS, "www.example.org", ".example.org", false},
		{kindAddress, "\x0a\x01\x02\x03", ten, true}, {kindAddress, home, ten, false}, {kindAddress, tenOne, ten, true}, {kindAddress, ten, tenOne, false}, {kindAddress, ten, ten, true}, {kindAddress, six, sixth, true}, {kindAddress, home, any4, true}, {kindAddress, home, any16, false}, {kindAddress, home, home, false}, {kindAddress, "", any4, false}, {kindAddress, "\x0a\x01\x02\x03", "\x0a\x00\x00\x01\xff\x00\x00\x00", false},
	} {
		g, base := api.GeneralName{Kind: k.kind, Text: k.g}, api.GeneralName{Kind: k.kind, Text: k.base}
		if gname.Within(g, base) != k.want {
			t.Errorf("Within(%s, %s) is %v", show(g), show(base), !k.want)
		}
		checkPair(t, g, base)
	}
	for _, k := range []struct {
		n, base api.Name
		want    bool
	}{
		{api.Name{}, api.Name{}, true}, {name(cn("a")), api.Name{}, true}, {api.Name{}, name(cn("a")), false}, {name(cn("A"), cn("b")), name(cn("a")), true}, {name(cn("a")), name(cn("a"), cn("b")), false}, {name(cn("b"), cn("a")), name(cn("a")), false}, {name(cn("a"), cn("b")), name(cn("a"), cn("B")), true},
	} {
		if g, base := dirName(k.n), dirName(k.base); gname.Within(g, base) != k.want {
			t.Errorf("Within(%s, %s) is %v", show(g), show(base), !k.want)
		}
	}
}

// TestCompareKinds: P9.4, names of two kinds, and of kinds that are none of the four.
func TestCompareKinds(t *testing.T) {
	all := append(append([]int{}, fourKinds...), otherKinds...)
	for _, g := range []api.GeneralName{{}, {Text: "a@b"}, {Text: "a.b"}, {Text: "a"}, {Text: "abcd"}, {Text: ten}, {Name: name(cn("a"))}, {Text: "a.b", Name: name(cn("a"))}} {
		for _, k := range all {
			for _, l := range all {
				a, b := g, g
				a.Kind, b.Kind = k, l
				checkPair(t, a, b)
				if (k != l || octets[k] == 0) && (gname.Same(a, b) || gname.Match(a, b) || gname.Within(a, b)) {
					t.Errorf("Same, Match or Within of %s and %s is true", show(a), show(b))
				}
				if k == l && octets[k] != 0 && !gname.Same(a, b) {
					t.Errorf("Same of %s and itself is false", show(a))
				}
			}
		}
	}
}

// TestComparePart: P9.4, a Text beside the Name of a directory name, and a Name beside the Text of others, do not count.
func TestComparePart(t *testing.T) {
	for _, a := range plain() {
		b, x := clone(a), clone(a)
		if a.Kind == kindDirectory {
			x.Text = "a.b"
		} else {
			x.Name = name(cn("a"))
		}
		for _, base := range []api.GeneralName{a, dnsName(""), dnsName("org"), mailName("example.org"), dirName(api.Name{}), dirName(name(cn("a"))), ipName(any4), ipName(ten)} {
			if gname.Same(x, base) != gname.Same(b, base) || gname.Match(x, base) != gname.Match(b, base) || gname.Within(x, base) != gname.Within(b, base) {
				t.Errorf("%s and %s are compared with %s otherwise", show(x), show(b), show(base))
			}
			if gname.Same(base, x) != gname.Same(base, b) || gname.Match(base, x) != gname.Match(base, b) || gname.Within(base, x) != gname.Within(base, b) {
				t.Errorf("%s and %s are compared with %s otherwise, behind it", show(x), show(b), show(base))
			}
		}
		if !gname.Same(a, x) || !gname.Same(x, a) {
			t.Errorf("%s and %s are not the same", show(a), show(x))
		}
	}
}

// TestComparePairs: P9.4, every two of the general names that have a Text or a Name alone.
func TestComparePairs(t *testing.T) {
	l := plain()
	for _, a := range l {
		for _, b := range l {
			checkPair(t, a, b)
		}
	}
}

// TestSameBytes: P9.4, every two bytes in texts of each kind: only A to Z are equal to other bytes, and in addresses none.
func TestSameBytes(t *testing.T) {
	for c := range 256 {
		for d := range 256 {
			x, y := string([]byte{byte(c)}), string([]byte{byte(d)})
			low, high := min(c, d), max(c, d)
			letter := 'A' <= low && low <= 'Z' && high-low == 32
			for _, k := range []struct {
				kind       int
				begin, end string
				want       bool
			}{
				{kindMail, "", "", c == d || letter}, {kindMail, "a_", ".b", c == d || letter}, {kindMail, "a@b_", "", c == d || letter}, {kindMail, "", "@", c == d || letter}, {kindMail, "a", "@b", c == d}, {kindMail, "a@b", "", c == d || letter},
				{kindDNS, "", "", c == d || letter}, {kindDNS, "a.", "b", c == d || letter}, {kindDNS, "*.a.b", "", c == d || letter}, {kindAddress, "", "", c == d}, {kindAddress, "abc", "", c == d}, {kindAddress, "", strings.Repeat("a", 15), c == d},
			} {
				a, b := api.GeneralName{Kind: k.kind, Text: k.begin + x + k.end}, api.GeneralName{Kind: k.kind, Text: k.begin + y + k.end}
				if gname.Same(a, b) != k.want {
					t.Errorf("Same(%s, %s) is %v", show(a), show(b), !k.want)
				}
			}
		}
	}
}

// TestSameBits: P9.4, addresses and ranges that differ in one bit.
func TestSameBits(t *testing.T) {
	for _, s := range []string{home, six, ten, sixth, zeros(4), ones(16), "abcd", "ABCD"} {
		for i := range 8 * len(s) {
			b := []byte(s)
			b[i/8] ^= 1 << (i % 8)
			if gname.Same(ipName(s), ipName(string(b))) || gname.Match(ipName(string(b)), ipName(s)) {
				t.Errorf("%x and %x are the same", s, b)
			}
			checkPair(t, ipName(s), ipName(string(b)))
		}
	}
}

// TestCompareRandom: P9.4, random names and bases, and the same ones with other letters.
func TestCompareRandom(t *testing.T) {
	r := rand.New(rand.NewSource(5))
	same, within := 0, 0
	for range 30000 {
		a, b := randomName(r, r.Intn(2) == 0), randomName(r, r.Intn(2) == 0)
		if r.Intn(3) == 0 {
			b = clone(a)
			b.Text = otherCase(r, b.Text)
		}
		checkPair(t, a, b)
		if gname.Same(a, b) {
			same++
		} else if gname.Within(a, b) {
			within++
		}
	}
	if same < 1000 || within < 300 {
		t.Errorf("only %d pairs are the same, and %d others within each other", same, within)
	}
}

// otherCase returns s with some letters in the other case.
func otherCase(r *rand.Rand, s string) string {
	b := []byte(s)
	for i, c := range b {
		if c |= 32; 'a' <= c && c <= 'z' && r.Intn(2) == 0 {
			b[i] ^= 32
		}
	}
	return string(b)
}

// TestCompareHuge: P9.4 and R1, texts and names that are much longer than the limits.
func TestCompareHuge(t *testing.T) {
	for _, k := range append(otherKinds[:2:2], fourKinds...) {
		for _, part := range []string{"A", "a.", "a@", "\xff"} {
			a := api.GeneralName{Kind: k, Text: strings.Repeat(part, 1<<20)}
			b := api.GeneralName{Kind: k, Text: smallLetters.Replace(a.Text)}
			checkPair(t, a, b)
			checkPair(t, a, dnsName("a"))
			b.Text = b.Text[:len(b.Text)-1] + "*"
			checkPair(t, a, b)
		}
	}
}

// TestSameWithin: P9.6, names that are the same are within the same bases, and have the same within them. Same is an equivalence.
func TestSameWithin(t *testing.T) {
	l := append(plain(), api.GeneralName{}, api.GeneralName{Kind: 3, Text: "a"}, mailName("ANN@www.EXAMPLE.org"), dnsName("Www.Example.Org"), dnsName("EXAMPLE.org"), mailName(".EXAMPLE.ORG"))
	pairs := 0
	for i, a := range l {
		for j, b := range l {
			if !gname.Same(a, b) {
				continue
			}
			if i != j {
				pairs++
			}
			for _, c := range l {
				if gname.Within(a, c) != gname.Within(b, c) {
					t.Errorf("%s and %s are the same, but only one is within %s", show(a), show(b), show(c))
				}
				if gname.Within(c, a) != gname.Within(c, b) {
					t.Errorf("%s and %s are the same, but %s is within only one", show(a), show(b), show(c))
				}
				if gname.Same(a, c) != gname.Same(b, c) || gname.Same(c, a) != gname.Same(c, b) {
					t.Errorf("%s and %s are the same, but %s is the same as only one", show(a), show(b), show(c))
				}
			}
		}
	}
	if pairs < 50 {
		t.Errorf("only %d pairs were the same", pairs)
	}
}

// TestSameWithinRandom: P9.6, random names, and the same ones with other letters and kinds of strings, in random bases.
func TestSameWithinRandom(t *testing.T) {
	r := rand.New(rand.NewSource(6))
	var bases []api.GeneralName
	for range 300 {
		bases = append(bases, randomName(r, true))
	}
	bases = append(bases, dnsName(""), dnsName("org"), mailName(".org"), mailName("org"), dirName(api.Name{}), ipName(any4), ipName(any16))
	same, within := 0, 0
	for range 2000 {
		a := randomName(r, r.Intn(2) == 0)
		b := clone(a)
		b.Text = otherCase(r, b.Text)
		for _, rdn := range b.Name.RDNs {
			r.Shuffle(len(rdn), func(i, j int) { rdn[i], rdn[j] = rdn[j], rdn[i] })
			for i := range rdn {
				rdn[i].Kind, rdn[i].Value = api.TagUTF8, " "+otherCase(r, rdn[i].Value)+"  "
			}
		}
		if !gname.Same(a, b) {
			continue
		}
		same++
		for _, base := range bases {
			if gname.Within(a, base) != gname.Within(b, base) {
				t.Errorf("%s and %s are the same, but only one is within %s", show(a), show(b), show(base))
			}
			if gname.Within(a, base) {
				within++
			}
		}
	}
	if same < 500 || within < 5000 {
		t.Errorf("only %d pairs were the same, and they were within bases %d times", same, within)
	}
}
