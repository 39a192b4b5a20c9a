package text_test

import (
	"math"
	"math/rand"
	"strings"
	"testing"

	"certpath/api"
	"certpath/text"
)

const (
	maxPoint  = 1114111
	letters   = "ABCDEFGHIJKLMNOPQRSTUVWXYZabcdefghijklmnopqrstuvwxyz"
	digits    = "0123456789"
	printable = letters + digits + " '()+,-./:=?"
)

// encoding returns the encoding of a code point in n bytes, from 1 to 6, whether or not it may be encoded so.
func encoding(point, n int) string {
	b := make([]byte, n)
	for i := n - 1; i > 0; i-- {
		b[i] = 0x80 | byte(point&0x3f)
		point >>= 6
	}
	b[0] = byte(point)
	if n > 1 {
		b[0] |= byte(int(0xff00) >> n)
	}
	return string(b)
}

// fits reports whether a code point can be encoded in n bytes.
func fits(point, n int) bool {
	if n == 1 {
		return point < 0x80
	}
	return point < 1<<(6*(n-1)+7-n)
}

// permitted reports whether P6.1 permits the encoding of a code point in n bytes.
func permitted(point, n int) bool {
	return point >= 32 && point != 127 && point <= maxPoint && !(point >= 0xd800 && point <= 0xdfff) && n <= 4 && fits(point, n) && (n == 1 || !fits(point, n-1))
}

// modelUTF8 is P6.1 for TagUTF8: s is divided into encodings, whose first bytes say how long they are, and each is permitted.
func modelUTF8(s string) bool {
	for s != "" {
		n, point := 1, int(s[0])
		switch {
		case s[0] >= 0xf0:
			n, point = 4, int(s[0]&0x07)
		case s[0] >= 0xe0:
			n, point = 3, int(s[0]&0x0f)
		case s[0] >= 0xc0:
			n, point = 2, int(s[0]&0x1f)
		}
		if n > len(s) {
			return false
		}
		for i := 1; i < n; i++ {
			point = point<<6 | int(s[i]&0x3f)
		}
		if !permitted(point, n) || encoding(point, n) != s[:n] {
			return false
		}
		s = s[n:]
	}
	return true
}

// checkUTF8 compares Valid with P6.1 for TagUTF8.
func checkUTF8(t *testing.T, s string) {
	t.Helper()
	if want := modelUTF8(s); text.Valid(api.TagUTF8, s) != want {
		t.Fatalf("Valid(TagUTF8, %+.60q) is %v", s, !want)
	}
}

// TestValidEmpty: P6.1, the empty string, which has no byte that is wrong.
func TestValidEmpty(t *testing.T) {
	for _, kind := range []int{api.TagUTF8, api.TagPrintable, api.TagIA5} {
		if !text.Valid(kind, "") {
			t.Errorf("Valid(%#x, \"\") is false", kind)
		}
	}
}

// TestValidBytes: P6.1, every byte, alone, at the beginning, at the end, between others, and twice.
func TestValidBytes(t *testing.T) {
	for c := range 256 {
		b := one(c)
		for kind, want := range map[int]bool{
			api.TagUTF8:      c >= 32 && c <= 126,
			api.TagPrintable: strings.Contains(printable, b),
			api.TagIA5:       c >= 32 && c <= 126,
		} {
			for _, s := range []string{b, b + "ab", "ab" + b, "a" + b + "b", b + b, strings.Repeat("a", 1000) + b} {
				if text.Valid(kind, s) != want {
					t.Errorf("Valid(%#x, %.20q) is %v", kind, s, !want)
				}
			}
		}
	}
}

// TestValidTexts: P6.1, texts, with the kinds that they may have.
func TestValidTexts(t *testing.T) {
	for _, k := range []struct {
		s                    string
		utf8, printable, ia5 bool
	}{
		{"Example Corp", true, true, true}, {" ", true, true, true}, {"  a  ", true, true, true}, {printable, true, true, true}, {strings.Repeat("a", 100000), true, true, true},
		{"a@example.com", true, false, true}, {"a_b", true, false, true}, {"a*b", true, false, true}, {`a"b`, true, false, true}, {"a&b", true, false, true}, {"a;b", true, false, true}, {`a\b`, true, false, true},
		{"#<>!$%[]^`{|}~", true, false, true}, {"é", true, false, false}, {"Corp\u00a0Ltd", true, false, false}, {"\u0660", true, false, false}, {"\uff21", true, false, false}, {"\U0001f600", true, false, false},
		{"\ufffd", true, false, false}, {"\ufeffa", true, false, false}, {"\u0080", true, false, false}, {"\u009f", true, false, false}, {"\u2028", true, false, false}, {"\ufffe\uffff", true, false, false},
		{"\x00", false, false, false}, {"a\x00", false, false, false}, {"a\tb", false, false, false}, {"a\n", false, false, false}, {"a\r\n", false, false, false}, {"\x7f", false, false, false}, {"é\x7f", false, false, false}, {"é\x1f", false, false, false}, {"é\x00", false, false, false},
		{"\xff", false, false, false}, {"\ufffd\xff", false, false, false}, {"\xe9", false, false, false}, {"a\xa0b", false, false, false}, {"\xc3", false, false, false}, {"\xa9", false, false, false}, {"\xc3\xa9", true, false, false}, {"\xa9\xc3", false, false, false},
	} {
		for kind, want := range map[int]bool{api.TagUTF8: k.utf8, api.TagPrintable: k.printable, api.TagIA5: k.ia5} {
			if text.Valid(kind, k.s) != want {
				t.Errorf("Valid(%#x, %+.60q) is %v", kind, k.s, !want)
			}
		}
	}
}

// TestValidKinds: P6.1, other kinds, among them those of other strings of DER, and numbers that are like the three.
func TestValidKinds(t *testing.T) {
	kinds := []int{math.MinInt, math.MaxInt, -1, 256, -api.TagUTF8, -api.TagPrintable, -api.TagIA5}
	for _, kind := range []int{api.TagUTF8, api.TagPrintable, api.TagIA5} {
		kinds = append(kinds, kind+256, kind-256, kind+1<<32, kind+1<<16, kind|0x20, kind|0x80, kind|0xa0)
	}
	for kind := range 256 {
		if kind != api.TagUTF8 && kind != api.TagPrintable && kind != api.TagIA5 {
			kinds = append(kinds, kind)
		}
	}
	for _, kind := range kinds {
		for _, s := range []string{"", "a", "Example Corp", "é", "\xff"} {
			if text.Valid(kind, s) {
				t.Errorf("Valid(%#x, %q) is true", kind, s)
			}
		}
	}
}

// TestValidEdges: P6.1, the code points at the ends of the ranges, in their shortest encodings, which are written out here.
func TestValidEdges(t *testing.T) {
	for _, k := range []struct {
		point int
		s     string
		want  bool
	}{
		{0, "\x00", false}, {31, "\x1f", false}, {32, "\x20", true}, {126, "\x7e", true}, {127, "\x7f", false}, {128, "\xc2\x80", true}, {2047, "\xdf\xbf", true}, {2048, "\xe0\xa0\x80", true},
		{55295, "\xed\x9f\xbf", true}, {55296, "\xed\xa0\x80", false}, {57343, "\xed\xbf\xbf", false}, {57344, "\xee\x80\x80", true}, {65533, "\xef\xbf\xbd", true}, {65535, "\xef\xbf\xbf", true}, {65536, "\xf0\x90\x80\x80", true},
		{1114111, "\xf4\x8f\xbf\xbf", true}, {1114112, "\xf4\x90\x80\x80", false},
	} {
		if text.Valid(api.TagUTF8, k.s) != k.want || text.Valid(api.TagUTF8, "é"+k.s+"a") != k.want {
			t.Errorf("the code point %d: Valid(TagUTF8, % x) is %v", k.point, k.s, !k.want)
		}
	}
}

// TestValidNotUTF8: P6.1, strings that are not well-formed, alone and among others.
func TestValidNotUTF8(t *testing.T) {
	for _, s := range []string{
		"\xc0\x80", "\xc0\xa0", "\xc0\xaf", "\xc1\x81", "\xc1\xbf", "\xe0\x80\x80", "\xe0\x80\xa0", "\xe0\x81\x81", "\xe0\x82\x80", "\xe0\x9f\xbf", "\xf0\x80\x80\x80", "\xf0\x80\x80\xa0", "\xf0\x80\x81\x81", "\xf0\x82\x82\xac", "\xf0\x8f\xbf\xbf", // longer than needed
		"\xf8\x80\x80\x80\x80", "\xf8\x88\x80\x80\x80", "\xfb\xbf\xbf\xbf\xbf", "\xfc\x80\x80\x80\x80\x80", "\xfc\x84\x80\x80\x80\x80", "\xfd\xbf\xbf\xbf\xbf\xbf", "\xfe", "\xfe\x80\x80\x80\x80\x80\x80", "\xff", "\xff\xff",
		"\xed\xa0\x80", "\xed\xad\xbf", "\xed\xae\x80", "\xed\xaf\xbf", "\xed\xb0\x80", "\xed\xbe\x80", "\xed\xbf\xbf", "\xed\xa0\x80\xed\xb0\x80", "\xed\xaf\xbf\xed\xbf\xbf", "\xed\xb0\x80\xed\xa0\x80", // surrogates
		"\xf4\x90\x80\x80", "\xf4\xbf\xbf\xbf", "\xf5\x80\x80\x80", "\xf6\x80\x80\x80", "\xf7\xbf\xbf\xbf", // above 1114111
		"\x80", "\xbf", "\x80\x80", "\x80a", "\xbf\xc2\x80", "\xc2\x80\x80", "\xe2\x82\xac\x80", "\xf0\x90\x80\x80\xbf", "a\x80", // bytes 128 to 191 where an encoding begins
		"\xc2", "\xdf", "\xe0", "\xe0\xa0", "\xe2\x82", "\xed\x9f", "\xef\xbf", "\xf0", "\xf0\x90", "\xf0\x90\x80", "\xf4\x8f\xbf", "\xc2a", "\xe2\x82a", "\xe2a\xac", "\xf0\x90\x80a", "\xf0\x90a\x80", "\xf0a\x80\x80", "\xc2\xc2\x80", "\xe2\xc2\x80", "\xe2\x82\xe2\x82\xac", // the last bytes are missing
	} {
		for _, around := range []string{s, "a" + s, s + "a", "é" + s + "é", s + "\ufffd", "\ufffd" + s, s + "\U0010ffff"} {
			if text.Valid(api.TagUTF8, around) {
				t.Errorf("Valid(TagUTF8, % x) is true", around)
			}
		}
	}
}

// TestValidPoints: P6.1, every code point in every number of bytes from 1 to 6 in which it can be encoded, and numbers that are too great for one.
func TestValidPoints(t *testing.T) {
	check := func(point int) {
		for n := 1; n <= 6; n++ {
			if !fits(point, n) {
				continue
			}
			if want := permitted(point, n); text.Valid(api.TagUTF8, encoding(point, n)) != want {
				t.Fatalf("the code point %d: Valid(TagUTF8, % x) is %v", point, encoding(point, n), !want)
			}
		}
	}
	for point := range maxPoint + 2000 {
		check(point)
	}
	for shift := 20; shift <= 31; shift++ {
		for point := 1<<shift - 300; point < 1<<shift; point++ {
			check(point)
		}
	}
}

// TestValidOthers: P6.1, no code point above 126 is in a TagPrintable or a TagIA5, although some are letters, digits or spaces elsewhere.
func TestValidOthers(t *testing.T) {
	for point := 127; point <= maxPoint; point++ {
		s := "a" + string(rune(point))
		if text.Valid(api.TagPrintable, s) || text.Valid(api.TagIA5, s) {
			t.Fatalf("the code point %d is in a TagPrintable or a TagIA5", point)
		}
	}
}

// parts are bytes at the ends of the ranges that UTF-8 distinguishes.
func parts() []string {
	return strings.Split("\x1f \x20 \x41 \x7e \x7f \x80 \x8f \x90 \x9f \xa0 \xbf \xc0 \xc1 \xc2 \xdf \xe0 \xe1 \xec \xed \xee \xef \xf0 \xf1 \xf3 \xf4 \xf5 \xf7 \xf8 \xff", " ")
}

// TestValidShort: P6.1, every string of up to two bytes, alone and behind the beginnings of encodings, and every string of up to four of the bytes that matter.
func TestValidShort(t *testing.T) {
	for i := range 256 {
		checkUTF8(t, one(i))
		for j := range 256 {
			for _, before := range []string{"", "a", "\xc2", "\xe0", "\xe2", "\xed", "\xf0\x90", "\xf0\x8f", "\xf4\x8f", "\xf4\x90"} {
				checkUTF8(t, before+one(i)+one(j))
			}
		}
	}
	each(parts(), 4, func(s string) { checkUTF8(t, s) })
}

// TestValidDamaged: P6.1, texts in which a byte is another one, is missing, or is added.
func TestValidDamaged(t *testing.T) {
	const s = "a\u00e9 \u20ac\U0001f600\ufffd\u07ff\u0800z"
	for i := range len(s) + 1 {
		checkUTF8(t, s[:i])
		checkUTF8(t, s[i:])
		for c := range 256 {
			checkUTF8(t, s[:i]+one(c)+s[i:])
			if i < len(s) {
				checkUTF8(t, s[:i]+one(c)+s[i+1:])
			}
		}
		if i < len(s) {
			checkUTF8(t, s[:i]+s[i+1:])
		}
	}
}

// TestValidRandom: P6.1, random strings of code points, in some of which there is a byte that matters.
func TestValidRandom(t *testing.T) {
	r := rand.New(rand.NewSource(1))
	for range 100000 {
		s := ""
		for range r.Intn(10) {
			s += encoding(32+r.Intn(1<<(5+r.Intn(16))), 1+r.Intn(4))
		}
		checkUTF8(t, s)
		s = ""
		for range r.Intn(10) {
			s += string(rune(32 + r.Intn(1<<(5+r.Intn(16)))))
		}
		checkUTF8(t, s)
		at := r.Intn(len(s) + 1)
		checkUTF8(t, s[:at]+random(r, parts(), 3)+s[at:])
	}
}
