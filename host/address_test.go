package host_test

import (
	"fmt"
	"math/rand"
	"regexp"
	"strings"
	"testing"

	"certpath/host"
)

// bits returns the bits of b, as digits.
func bits(b string) string {
	s := make([]byte, 0, 8*len(b))
	for i := range 8 * len(b) {
		s = append(s, '0'+b[i/8]>>(7-i%8)&1)
	}
	return string(s)
}

// bytes returns the bytes with these bits.
func bytes(bits string) string {
	b := make([]byte, len(bits)/8)
	for i := range bits {
		b[i/8] = b[i/8]<<1 | bits[i]&1
	}
	return string(b)
}

// mask returns a mask of n bytes with k bits 1.
func mask(n, k int) string {
	return bytes(strings.Repeat("1", k) + strings.Repeat("0", 8*n-k))
}

// cut returns s with bits 0 behind the first k ones.
func cut(s string, k int) string {
	return bytes(bits(s)[:k] + strings.Repeat("0", 8*len(s)-k))
}

// rangeOf returns the range of the addresses that have the first k bits of a.
func rangeOf(a string, k int) string {
	return cut(a, k) + mask(len(a), k)
}

// randomBytes returns n bytes; some have few bits 1, or few bits 0.
func randomBytes(r *rand.Rand, n int) string {
	b := make([]byte, n)
	kind := r.Intn(4)
	for i := range b {
		switch kind {
		case 0:
			b[i] = byte(r.Intn(256))
		case 1:
			b[i] = byte(r.Intn(2)) << r.Intn(8)
		case 2:
			b[i] = ^(byte(r.Intn(2)) << r.Intn(8))
		}
	}
	return string(b)
}

var maskForm = regexp.MustCompile(`^1*0*$`)

// prefix returns the bits that the addresses of a range have in common, by P8.5, and whether it is one.
func prefix(b string) (string, bool) {
	if len(b) != 8 && len(b) != 32 {
		return "", false
	}
	first, mask := bits(b[:len(b)/2]), bits(b[len(b)/2:])
	ones := strings.Count(mask, "1")
	if !maskForm.MatchString(mask) || strings.Contains(first[ones:], "1") {
		return "", false
	}
	return first[:ones], true
}

// modelAddressWithin is P8.5 for AddressWithin: all that counts is which bits are common.
func modelAddressWithin(a, r string) bool {
	p, ok := prefix(r)
	if !ok {
		return false
	}
	if q, ok := prefix(a); ok {
		return len(a) == len(r) && strings.HasPrefix(q, p)
	}
	return 2*len(a) == len(r) && strings.HasPrefix(bits(a), p)
}

// checkRange compares Address and Range with P8.5.
func checkRange(t *testing.T, b string) {
	t.Helper()
	_, want := prefix(b)
	expect(t, host.Range(b), want, "Range", b)
	expect(t, host.Address(b), len(b) == 4 || len(b) == 16, "Address", b)
}

// checkWithin compares AddressWithin with P8.5.
func checkWithin(t *testing.T, a, r string) {
	t.Helper()
	expect(t, host.AddressWithin(a, r), modelAddressWithin(a, r), "AddressWithin", a, r)
}

// TestAddressLengths: P8.5, bytes of every length; of those of each length some are a range.
func TestAddressLengths(t *testing.T) {
	address := map[int]bool{4: true, 16: true}
	double := map[int]bool{8: true, 32: true}
	for n := range 41 {
		for _, b := range []string{strings.Repeat("\x00", n), strings.Repeat("\xff", n), strings.Repeat("a", n), strings.Repeat("\x80", n), strings.Repeat("\x00", n/2) + strings.Repeat("\xff", n-n/2)} {
			expect(t, host.Address(b), address[n], "Address", b)
			checkRange(t, b)
			for _, r := range []string{strings.Repeat("\x00", 8), strings.Repeat("\x00", 32)} {
				checkWithin(t, b, r)
				checkWithin(t, r, b)
				if want := address[n] && len(r) == 2*n; !double[n] {
					expect(t, host.AddressWithin(b, r), want, "AddressWithin", b, r)
				}
			}
		}
		expect(t, host.Range(strings.Repeat("\x00", n)), double[n], "Range", strings.Repeat("\x00", n))
		expect(t, host.Range(strings.Repeat("\xff", n)), double[n], "Range", strings.Repeat("\xff", n))
		expect(t, host.Range(strings.Repeat("\x00", n/2)+strings.Repeat("\xff", n-n/2)), double[n], "Range", "zeros and ones", fmt.Sprint(n))
	}
	for _, b := range []string{strings.Repeat("\x00", 1<<24), strings.Repeat("\xff", 1<<24), strings.Repeat("a", 1<<24+1)} {
		expect(t, host.Address(b), false, "Address", b[:9])
		expect(t, host.Range(b), false, "Range", b[:9])
		expect(t, host.AddressWithin(b, b), false, "AddressWithin", b[:9])
		expect(t, host.AddressWithin(b, rangeOf("abcd", 8)), false, "AddressWithin", b[:9])
		expect(t, host.AddressWithin("abcd", b), false, "AddressWithin", b[:9])
	}
}

// TestRangeKnown: P8.5, ranges, and bytes that are none.
func TestRangeKnown(t *testing.T) {
	zeros, ones := strings.Repeat("\x00", 16), strings.Repeat("\xff", 16)
	for _, b := range []string{
		"\x00\x00\x00\x00\x00\x00\x00\x00", "\x00\x00\x00\x00\xff\xff\xff\xff", "\xc0\xa8\x01\x02\xff\xff\xff\xff", "\x0a\x00\x00\x00\xff\x00\x00\x00", "\x0a\x80\x00\x00\xff\x80\x00\x00", "\xc0\xa8\x00\x00\xff\xff\x00\x00", "\xac\x10\x00\x00\xff\xf0\x00\x00", "\x00\x00\x00\x00\x80\x00\x00\x00", "\x80\x00\x00\x00\x80\x00\x00\x00", "\xff\xff\xff\xfe\xff\xff\xff\xfe",
		zeros + zeros, zeros + ones, ones + ones, "abcdefghijklmnop" + ones, "\x20\x01\x0d\xb8" + zeros[4:] + "\xff\xff\xff\xff" + zeros[4:], "abcdefg\x80" + zeros[8:] + ones[:7] + "\xc0" + zeros[8:],
	} {
		expect(t, host.Range(b), true, "Range", b)
		checkRange(t, b)
	}
	for _, b := range []string{
		"", "\x00\x00\x00\x00", zeros, ones, "\x00\x00\x00\x00\xff\xff\xff\xff\x00", "\x0a\x00\x00\x00\xff\x00\x00", // lengths
		"\x00\x00\x00\x00\x00\x00\x00\x01", "\x00\x00\x00\x00\x7f\xff\xff\xff", "\x00\x00\x00\x00\xff\x00\xff\x00", "\x00\x00\x00\x00\x00\xff\xff\xff", "\x00\x00\x00\x00\xff\xfe\xff\xff", "\x00\x00\x00\x00\xff\x80\x80\x00", "\x00\x00\x00\x00\xfd\x00\x00\x00", "\x00\x00\x00\x00\xff\xff\xff\xfd", "\x00\x00\x00\x00\x01\x00\x00\x00", "\x00\x00\x00\x00\x40\x00\x00\x00", "\x00\x00\x00\x00\xff\xff\xff\xef", // a bit 1 behind a bit 0
		"\x00\x00\x00\x01\x00\x00\x00\x00", "\x80\x00\x00\x00\x00\x00\x00\x00", "\x0a\x00\x00\x01\xff\x00\x00\x00", "\x0a\x80\x00\x00\xff\x00\x00\x00", "\xff\xff\xff\xff\xff\xff\xff\xfe", "\x0a\x40\x00\x00\xff\x80\x00\x00", "\xff\xff\xff\xff\xff\xff\xff\x00", // a bit 1 where the mask is 0
		ones + zeros, "abcdefghijklmnop" + zeros, "\x20\x01\x0d\xb8" + zeros[5:] + "\x01" + "\xff\xff\xff\xff" + zeros[4:], zeros + zeros[1:] + "\x01", zeros + ones[:8] + zeros[:7] + "\x01", zeros + zeros[:8] + ones[:8],
	} {
		expect(t, host.Range(b), false, "Range", b)
		checkRange(t, b)
	}
}

// TestRangeMasks: P8.5, masks of every length, with every first half of one bit, and masks in which one bit is another one.
func TestRangeMasks(t *testing.T) {
	for _, n := range []int{4, 16} {
		zeros := strings.Repeat("0", 8*n)
		for k := range 8*n + 1 {
			m := mask(n, k)
			full := cut(strings.Repeat("\xff", n), k)
			expect(t, host.Range(bytes(zeros)+m), true, "Range", bytes(zeros)+m)
			expect(t, host.Range(full+m), true, "Range", full+m)
			for i := range 8 * n {
				first := bytes(zeros[:i] + "1" + zeros[i+1:])
				expect(t, host.Range(first+m), i < k, "Range", first+m)
				b := []byte(m)
				b[i/8] ^= 0x80 >> (i % 8)
				expect(t, host.Range(bytes(zeros)+string(b)), i == k || i == k-1, "Range", bytes(zeros)+string(b))
				checkRange(t, full+string(b))
			}
		}
	}
}

// TestRangeBytes: P8.5, every byte in every place of a mask, and of a first half, behind and before bytes 0 and 255.
func TestRangeBytes(t *testing.T) {
	for _, n := range []int{4, 16} {
		for i := range n {
			for c := range 256 {
				m := strings.Repeat("\xff", i) + one(c) + strings.Repeat("\x00", n-1-i)
				expect(t, host.Range(strings.Repeat("\x00", n)+m), maskForm.MatchString(fmt.Sprintf("%08b", c)), "Range", m)
				checkRange(t, strings.Repeat("\xff", n)+m)
				checkRange(t, m+m)
				for _, k := range []int{8 * i, 8*i + 1, 8*i + 4, 8*i + 7, 8*i + 8} {
					checkRange(t, m+mask(n, k))
					checkRange(t, strings.Repeat("\x00", i)+one(c)+strings.Repeat("\x00", n-1-i)+mask(n, k))
				}
				for _, before := range []string{"\x00", "\xfe", "\xff", "\x80"} {
					checkRange(t, strings.Repeat("\x00", n)+strings.Repeat(before, i)+one(c)+strings.Repeat("\x00", n-1-i))
					checkRange(t, strings.Repeat("\x00", n)+m[:i+1]+strings.Repeat(before, n-1-i))
				}
			}
		}
	}
}

// TestAddressWithinKnown: P8.5, addresses and ranges within ranges, and others.
func TestAddressWithinKnown(t *testing.T) {
	zeros, ones := strings.Repeat("\x00", 16), strings.Repeat("\xff", 16)
	ten := "\x0a\x00\x00\x00\xff\x00\x00\x00"
	for _, k := range []struct {
		a, r string
		want bool
	}{
		{"\x0a\x01\x02\x03", ten, true}, {"\x0a\x00\x00\x00", ten, true}, {"\x0a\xff\xff\xff", ten, true}, {"\x0b\x01\x02\x03", ten, false}, {"\x00\x01\x02\x03", ten, false}, {"\x8a\x01\x02\x03", ten, false},
		{"\x0a\x01\x02\x03", "\x00\x00\x00\x00\x00\x00\x00\x00", true}, {"\xff\xff\xff\xff", "\x00\x00\x00\x00\x00\x00\x00\x00", true}, {"abcd", "abcd\xff\xff\xff\xff", true}, {"abce", "abcd\xff\xff\xff\xff", false}, {"\xac\x1f\x00\x01", "\xac\x10\x00\x00\xff\xf0\x00\x00", true}, {"\xac\x20\x00\x01", "\xac\x10\x00\x00\xff\xf0\x00\x00", false},
		{ten, ten, true}, {"\x0a\x01\x00\x00\xff\xff\x00\x00", ten, true}, {ten, "\x0a\x01\x00\x00\xff\xff\x00\x00", false}, {"\x0b\x01\x00\x00\xff\xff\x00\x00", ten, false}, {ten, "\x00\x00\x00\x00\x00\x00\x00\x00", true}, {"\x00\x00\x00\x00\x00\x00\x00\x00", ten, false}, {"\x00\x00\x00\x00\x00\x00\x00\x00", "\x00\x00\x00\x00\xff\x00\x00\x00", false}, {"\x0a\x00\x00\x00\xfe\x00\x00\x00", ten, false}, {"\x0a\x00\x00\x00\xff\x80\x00\x00", ten, true}, {"\x0a\x80\x00\x00\xff\x80\x00\x00", ten, true}, {"\x0a\x01\x02\x03\xff\xff\xff\xff", ten, true}, {"\x0b\x01\x02\x03\xff\xff\xff\xff", ten, false},
		{"\x0a\x01\x02\x03", "\x0a\x00\x00\x00\xff\x00\x00\x01", false}, {"\x0a\x01\x02\x03", "\x0a\x00\x00\x01\xff\x00\x00\x00", false}, {"\x0a\x01\x02\x03", "\x0a\x01\x02\x03", false}, {"\x0a\x01\x02\x03", "", false}, {"", "", false}, {"", ten, false}, {"\x0a\x01\x02", ten, false}, {"\x0a\x01\x02\x03\x04", ten, false}, {"\x0a\x01\x00\x00\xff\xff\x00\x01", ten, false}, {"\x0a\x01\x02\x00\xff\xff\x00\x00", ten, false}, {"\x0a\x00\x00\x00\xff\x01\x00\x00", ten, false}, {"\x0a\x00\x00\x00\xff\xff\xff\xff\xff", ten, false},
		{"abcdefghijklmnop", zeros + zeros, true}, {"abcdefghijklmnop", "abcdefghijklmnop" + ones, true}, {"abcdefghijklmnoq", "abcdefghijklmnop" + ones, false}, {"abcdefghijklmnop", "abcd" + zeros[4:] + ones[:4] + zeros[4:], true}, {"abcefghijklmnopq", "abcd" + zeros[4:] + ones[:4] + zeros[4:], false}, {"abcd" + zeros[4:] + ones[:4] + zeros[4:], "abc" + zeros[3:] + ones[:3] + zeros[3:], true}, {"abc" + zeros[3:] + ones[:3] + zeros[3:], "abcd" + zeros[4:] + ones[:4] + zeros[4:], false},
		{zeros, "\x00\x00\x00\x00\x00\x00\x00\x00", false}, {"\x00\x00\x00\x00", zeros + zeros, false}, {"\x00\x00\x00\x00\x00\x00\x00\x00", zeros + zeros, false}, {zeros + zeros, "\x00\x00\x00\x00\x00\x00\x00\x00", false}, {zeros + zeros, zeros, false}, {zeros, zeros, false}, {"\x00\x00\x00\x00", "\x00\x00\x00\x00", false}, {"\x00\x00\x00\x00\x00\x00\x00\x00", zeros, false}, // sizes that do not fit
	} {
		expect(t, host.AddressWithin(k.a, k.r), k.want, "AddressWithin", k.a, k.r)
		checkWithin(t, k.a, k.r)
	}
}

// TestAddressWithinBits: P8.5, addresses that differ from the first half of a range in one bit, and ranges with masks of every two lengths.
func TestAddressWithinBits(t *testing.T) {
	r := rand.New(rand.NewSource(3))
	for _, n := range []int{4, 16} {
		for k := range 8*n + 1 {
			a := randomBytes(r, n)
			base := rangeOf(a, k)
			for i := range 8 * n {
				b := []byte(a)
				b[i/8] ^= 0x80 >> (i % 8)
				expect(t, host.AddressWithin(a, base), true, "AddressWithin", a, base)
				expect(t, host.AddressWithin(string(b), base), i >= k, "AddressWithin", string(b), base)
				for _, j := range []int{0, k - 1, k, k + 1, i, i + 1, 8 * n} {
					if j < 0 || j > 8*n {
						continue
					}
					expect(t, host.AddressWithin(rangeOf(a, j), base), j >= k, "AddressWithin", rangeOf(a, j), base)
					expect(t, host.AddressWithin(rangeOf(string(b), j), base), j >= k && i >= k, "AddressWithin", rangeOf(string(b), j), base)
				}
			}
		}
	}
}

// TestAddressRandom: P8.5, random bytes of all sizes that matter, and ranges in which a byte is another one.
func TestAddressRandom(t *testing.T) {
	r := rand.New(rand.NewSource(4))
	for range 20000 {
		n := []int{4, 16}[r.Intn(2)]
		a := randomBytes(r, n)
		base := rangeOf(a, r.Intn(8*n+1))
		checkWithin(t, a, base)
		checkWithin(t, rangeOf(a, r.Intn(8*n+1)), base)
		checkWithin(t, rangeOf(randomBytes(r, n), r.Intn(8*n+1)), base)
		b := []byte(base)
		b[r.Intn(len(b))] ^= 1 << r.Intn(8)
		checkRange(t, string(b))
		checkWithin(t, a, string(b))
		checkWithin(t, string(b), base)
		checkWithin(t, string(b), string(b))
		c, d := randomBytes(r, []int{4, 8, 16, 32}[r.Intn(4)]), randomBytes(r, []int{4, 8, 16, 32}[r.Intn(4)])
		checkRange(t, c)
		checkWithin(t, c, d)
		checkWithin(t, c, base)
		checkWithin(t, base, d)
	}
}
