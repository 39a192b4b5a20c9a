package host_test

import (
	"strings"
	"testing"

	"certpath/host"
)

// checkDNS compares DNS, Pattern and Base with P8.1.
func checkDNS(t *testing.T, s string) {
	t.Helper()
	expect(t, host.DNS(s), modelDNS(s), "DNS", s)
	expect(t, host.Pattern(s), modelPattern(s), "Pattern", s)
	expect(t, host.Base(s), modelBase(s), "Base", s)
}

// TestDNSKnown: P8.1, texts that are DNS names, and texts that are not.
func TestDNSKnown(t *testing.T) {
	for _, s := range []string{
		"a", "Z", "0", "9", "example.org", "Mail.Example.org", "a.b.c.d.e.f", "a-b", "a--b", "x-1.y-2", "0.0", "127.0.0.1", "xn--bcher-kva.example",
		of(63), of(63) + ".a", "a." + of(63), of(63) + "." + of(63), domain(128), short(128), short(127), "a" + strings.Repeat("-", 61) + "b",
	} {
		expect(t, host.DNS(s), true, "DNS", s)
		expect(t, host.Pattern(s), true, "Pattern", s)
		expect(t, host.Base(s), true, "Base", s)
	}
	for _, s := range []string{
		".", "..", "a.", ".a", "a..b", "a.b.", ".a.b", "a...b", // labels of no byte
		of(64), of(64) + ".a", "a." + of(64), "a." + of(64) + ".a", of(63) + "." + of(64), of(128), of(65), // labels of more than 63
		"-", "--", "-a", "a-", "-a.b", "a-.b", "a.-b", "a.b-", "a.-", "-.a", "a.-.b", "a.b-.c", "a.-b.c", of(62) + "-", "-" + of(62), // hyphens
		domain(129), domain(130), short(129), short(130), strings.Repeat("a.", 64) + "a", strings.Repeat("a.", 64), "." + domain(128), domain(128) + ".", // more than MaxHost bytes
		"a_b", "a b", " a", "a ", "a\n", "a\x00", "é", "a.é", "\u212a", "a@b", "a/b", "[::1]", "a:b", "a,b", "a\\.b", "a。b", "a\xff", // other bytes
		"*", "*.", "**", "*.*", "**.a.b", "*a.b.c", "a*.b.c", "a.*", "a.*.b", "a.*.b.c", "*.*.b.c", "*.a.*.c", "*.a.*", "*a", "a*", " *.a.b", // other places of *
		"*.a", "*.", "*..", "*..a.b", "*.a.", "*.a..b", "*.a.b.", "*.-a.b", "*.a.b-", "*.a_b.c", "*." + of(64) + ".a", "*.a." + of(64), "*" + of(3), "*-.a.b", // patterns with fewer than two labels, or invalid ones
		"*." + domain(127), "*." + domain(128), "*." + short(127), // too long
	} {
		expect(t, host.DNS(s), false, "DNS", s)
		expect(t, host.Pattern(s), false, "Pattern", s)
		expect(t, host.Base(s), false, "Base", s)
	}
	for _, s := range []string{"*.a.b", "*.Example.org", "*.a.b.c", "*.0.1", "*.a-b.c-d", "*." + of(63) + "." + of(62), "*." + domain(126), "*." + short(126), "*." + short(125)} {
		expect(t, host.DNS(s), false, "DNS", s)
		expect(t, host.Pattern(s), true, "Pattern", s)
		expect(t, host.Base(s), false, "Base", s)
	}
	expect(t, host.DNS(""), false, "DNS", "")
	expect(t, host.Pattern(""), false, "Pattern", "")
	expect(t, host.Base(""), true, "Base", "")
}

// TestDNSLengths: P8.1, labels of every length at the beginning, in the middle and at the end, and texts of every length.
func TestDNSLengths(t *testing.T) {
	for n := range 135 {
		for _, before := range []string{"", "a.", "*.", "*.a.", "a.b."} {
			for _, behind := range []string{"", ".a", ".a.b"} {
				s := before + of(n) + behind
				checkDNS(t, s)
				if want := n >= 1 && n <= 63; !strings.HasPrefix(s, "*") {
					expect(t, host.DNS(s), want, "DNS", s)
				}
			}
		}
		if n < 2 {
			continue
		}
		for _, s := range []string{domain(n), short(n)} {
			if len(s) != n {
				t.Fatalf("%q has %d bytes, want %d", s, len(s), n)
			}
			expect(t, host.DNS(s), n <= 128, "DNS", s)
			expect(t, host.Base(s), n <= 128, "Base", s)
			if strings.Contains(s, ".") {
				expect(t, host.Pattern("*."+s), n <= 126, "Pattern", "*."+s)
			}
			checkDNS(t, "*."+s)
		}
	}
}

// TestDNSBytes: P8.1, every byte in every place of a label of one, two, three and five bytes, alone and among others, also behind `*.`.
func TestDNSBytes(t *testing.T) {
	for c := range 256 {
		letter := strings.Contains(letters+digits, one(c))
		for _, label := range []string{"x", "xy", "xyz", "vwxyz"} {
			for i := range len(label) {
				changed := label[:i] + one(c) + label[i+1:]
				inside := c == '-' && i > 0 && i < len(label)-1
				divided := c == '.' && i > 0 && i < len(label)-1
				for _, before := range []string{"", "a.", "a.b-c."} {
					for _, behind := range []string{"", ".a", ".a-b.c"} {
						s := before + changed + behind
						expect(t, host.DNS(s), letter || inside || divided, "DNS", s)
						expect(t, host.Base(s), letter || inside || divided, "Base", s)
						checkDNS(t, s)
						checkDNS(t, "*."+s)
					}
				}
			}
		}
		for i := range 63 {
			s := of(i) + one(c) + of(62-i)
			checkDNS(t, s)
			checkDNS(t, "*."+s+".a")
		}
	}
}

// TestDNSShort: P8.1, every text of up to seven of the parts that matter.
func TestDNSShort(t *testing.T) {
	each([]string{"a", ".", "-", "*", "_"}, 7, func(s string) { checkDNS(t, s) })
	each([]string{"a", ".", "*.", "-", "@", "0", "Z"}, 5, func(s string) { checkDNS(t, s) })
}

// TestDNSDamaged: P8.1, names and patterns in which something is missing, is added, or is something else.
func TestDNSDamaged(t *testing.T) {
	for _, s := range []string{"a.b.c", "ab-cd.ef-gh.i", "*.example.org", "*.a.b", of(63) + ".a", domain(128), "*." + domain(126)} {
		damaged(s, func(s string) { checkDNS(t, s) })
	}
}

// TestDNSHuge: P8.1 and R1, texts that are much longer than a name.
func TestDNSHuge(t *testing.T) {
	for _, part := range []string{"a", ".", "a.", "-", "*", "*.", "@", "\x00", "\xff"} {
		s := strings.Repeat(part, 1<<20)
		expect(t, host.DNS(s), false, "DNS", s)
		expect(t, host.Pattern(s), false, "Pattern", s)
		expect(t, host.Pattern("*."+s), false, "Pattern", "*."+s)
		expect(t, host.Base(s), false, "Base", s)
	}
}
