package oid_test

import (
	"math/big"
	"math/rand"
	"regexp"
	"strconv"
	"strings"
	"testing"

	"certpath/api"
)

var form = regexp.MustCompile(`^(0|[1-9][0-9]*)(\.(0|[1-9][0-9]*))*$`)

// arcs returns the arcs of s as numbers of any size, and whether s is an object identifier by the definition of the chapter.
func arcs(s string) ([]*big.Int, bool) {
	if !form.MatchString(s) {
		return nil, false
	}
	var l []*big.Int
	for _, p := range strings.Split(s, ".") {
		n, _ := new(big.Int).SetString(p, 10)
		if n.Cmp(big.NewInt(api.MaxArc)) > 0 {
			return nil, false
		}
		l = append(l, n)
	}
	if len(l) < 2 || len(l) > api.MaxArcs || l[0].Cmp(big.NewInt(2)) > 0 {
		return nil, false
	}
	if l[0].Cmp(big.NewInt(2)) < 0 && l[1].Cmp(big.NewInt(39)) > 0 {
		return nil, false
	}
	return l, true
}

// digits returns the contents for one number by dividing it.
func digits(n *big.Int) string {
	base := big.NewInt(128)
	q, r := new(big.Int).DivMod(n, base, new(big.Int))
	c := string([]byte{byte(r.Int64())})
	for q.Sign() > 0 {
		q, r = new(big.Int).DivMod(q, base, new(big.Int))
		c = string([]byte{byte(r.Int64()) + 128}) + c
	}
	return c
}

// contents is P4.2 for an object identifier with these arcs.
func contents(l []*big.Int) string {
	first := new(big.Int).Mul(l[0], big.NewInt(40))
	c := digits(first.Add(first, l[1]))
	for _, n := range l[2:] {
		c += digits(n)
	}
	return c
}

// texts returns the three texts, with any first arc, of which the contents c could be those, by the bytes below 128 that end its numbers.
func texts(c string) []string {
	base := big.NewInt(128)
	var l []*big.Int
	n := new(big.Int)
	for i := range len(c) {
		n.Add(n.Mul(n, base), big.NewInt(int64(c[i]%128)))
		if c[i] < 128 {
			l = append(l, n)
			n = new(big.Int)
		}
	}
	if len(l) == 0 {
		return nil
	}
	var all []string
	for first := range 3 {
		second := new(big.Int).Sub(l[0], big.NewInt(int64(40*first)))
		s := strconv.Itoa(first) + "." + second.String()
		for _, n := range l[1:] {
			s += "." + n.String()
		}
		all = append(all, s)
	}
	return all
}

// edges are arcs about the ends of what is permitted, and of numbers of digits.
func edges() []int {
	l := []int{0, 1, 2, 9, 10, 39, 40, 41, 47, 48, 79, 80, 81, 99, 100, 119, 120, 127, 128, 129, 255, 256}
	for shift := 14; shift < 31; shift += 7 {
		l = append(l, 1<<shift-81, 1<<shift-80, 1<<shift-1, 1<<shift, 1<<shift+1)
	}
	return append(l, api.MaxArc-80, api.MaxArc-79, api.MaxArc-1, api.MaxArc)
}

// some returns object identifiers with edges as second and as last arcs, and with every number of arcs.
func some() []string {
	var l []string
	for first := range 3 {
		for _, n := range edges() {
			if first == 2 || n < 40 {
				l = append(l, strconv.Itoa(first)+"."+strconv.Itoa(n))
			}
			l = append(l, strconv.Itoa(first)+".39."+strconv.Itoa(n))
		}
		for count := 2; count <= api.MaxArcs; count++ {
			for _, n := range []string{".0", ".1", ".39"} {
				l = append(l, strconv.Itoa(first)+strings.Repeat(n, count-1))
			}
		}
	}
	greatest := strconv.Itoa(api.MaxArc)
	return append(l, "2"+strings.Repeat("."+greatest, api.MaxArcs-1), api.OIDAnyPolicy, api.OIDDomain, api.OIDMail, api.OIDAlgorithm)
}

// random returns a random object identifier.
func random(r *rand.Rand) string {
	l := edges()
	first := r.Intn(3)
	s := strconv.Itoa(first) + "."
	if first < 2 {
		s += strconv.Itoa(r.Intn(40))
	} else {
		s += strconv.Itoa(l[r.Intn(len(l))])
	}
	for range r.Intn(api.MaxArcs - 1) {
		n := l[r.Intn(len(l))]
		if r.Intn(3) == 0 {
			n = int(r.Uint32()>>1) >> r.Intn(31)
		}
		s += "." + strconv.Itoa(n)
	}
	return s
}

// invalid are texts that are almost object identifiers.
var invalid = []string{
	"", ".", "..", "0", "1", "2", "1.", ".1", ".1.2", "1.2.", "1..2", "1.2..3", "..1.2", "1.2..",
	"3.0", "3.39", "4.1", "9.1", "10.1", "20.1", "22.1", "0.40", "1.40", "0.40.1", "1.40.1", "0.2147483647", "1.99", "0.100",
	"00.1", "01.2", "02.5", "1.02", "1.00", "1.2.00", "1.2.03", "2.05.1", "000.1", "2.5.029", "2.007",
	"+1.2", "1.+2", "-0.1", "1.-2", "-1.2", "1.2.-3", "1.2.+3", "0.-1", "2.5.-0",
	" 1.2", "1.2 ", "1. 2", "1 .2", "1.2\n", "\n1.2", "1.2\x00", "1.2.\x00", "1\x00.2", "1,2", "1.2,3", "1:2", "1/2", "1.2/3", "1.2:3",
	"1.2a", "a.b", "a1.2", "1.2.x", "1.0x2", "1.2e1", "1.2_0", "1.2.3_4", "1_0.2", "0x1.2", "1.2.\u0663", "\u0661.2", "1.2\u00b2", "1.2.\xff", "1\xff.2", "1.2.\xb3",
	"2.2147483648", "2.4294967295", "2.4294967296", "2.4294967301", "2.9999999999", "2.99999999999999999999",
	"1.2.2147483648", "1.2.4294967296", "1.2.4294967299", "1.2.18446744073709551616", "1.2.18446744073709551619", "1.2.9223372036854775808", "1.2.340282366920938463463374607431768211459",
	"2147483648.1", "4294967297.2", "18446744073709551617.2", "18446744073709551616.0",
}

// long returns texts with too many arcs, and with arcs of many digits.
func long() []string {
	return []string{
		"1" + strings.Repeat(".1", api.MaxArcs), "2" + strings.Repeat(".0", api.MaxArcs+1), "1" + strings.Repeat(".1", 100000),
		strings.Repeat("1.", api.MaxArcs), strings.Repeat("1.", api.MaxArcs-1), strings.Repeat(".1", api.MaxArcs), strings.Repeat(".", api.MaxArcs-1),
		"1.2." + strings.Repeat("0", 100000), "1.2." + strings.Repeat("0", 100000) + "1", "1.2." + strings.Repeat("9", 100000),
		strings.Repeat("1", 100000) + ".1", strings.Repeat("0", 100000), "2.1" + strings.Repeat("0", 1000), strings.Repeat("0", 20) + "1.2",
	}
}

// TestModel checks the tests' own lists and model.
func TestModel(t *testing.T) {
	for _, s := range some() {
		if _, ok := arcs(s); !ok {
			t.Errorf("%q should be valid", s)
		}
	}
	for _, s := range append(long(), invalid...) {
		if _, ok := arcs(s); ok {
			t.Errorf("%.50q should be invalid", s)
		}
	}
	l, _ := arcs("2.5.29.300")
	if c := contents(l); c != "\x55\x1d\x82\x2c" {
		t.Errorf("the contents are %q", c)
	}
	if l := texts("\x2a\x82\x2c"); len(l) != 3 || l[0] != "0.42.300" || l[1] != "1.2.300" || l[2] != "2.-38.300" {
		t.Errorf("the texts are %q", l)
	}
}
