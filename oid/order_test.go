package oid_test

import (
	"math/rand"
	"slices"
	"testing"

	"certpath/oid"
)

// less is the order of P4.4, position by position.
func less(a, b string) bool {
	la, okA := arcs(a)
	lb, okB := arcs(b)
	if !okA || !okB {
		return false
	}
	for i := range la {
		if i == len(lb) {
			return false
		}
		if d := la[i].Cmp(lb[i]); d != 0 {
			return d < 0
		}
	}
	return len(la) < len(lb)
}

// under is the other half of P4.4, position by position.
func under(s, base string) bool {
	ls, okS := arcs(s)
	lb, okB := arcs(base)
	if !okS || !okB || len(lb) > len(ls) {
		return false
	}
	for i := range lb {
		if ls[i].Cmp(lb[i]) != 0 {
			return false
		}
	}
	return true
}

// checkOrder compares Less and Under with their models for two texts.
func checkOrder(t *testing.T, a, b string) {
	t.Helper()
	if want := less(a, b); oid.Less(a, b) != want {
		t.Fatalf("Less(%.100q, %.100q) is %v", a, b, !want)
	}
	if want := under(a, b); oid.Under(a, b) != want {
		t.Fatalf("Under(%.100q, %.100q) is %v", a, b, !want)
	}
}

// ordered are object identifiers in ascending order. Their texts do not have this order.
var ordered = []string{
	"0.0", "0.0.0", "0.0.0.0", "0.0.1", "0.1", "0.2", "0.9", "0.10", "0.39", "0.39.2147483647",
	"1.0", "1.2", "1.2.0", "1.2.0.5", "1.2.1", "1.2.2", "1.2.3", "1.2.3.0", "1.2.3.4", "1.2.3.4.5", "1.2.3.10", "1.2.4", "1.2.9", "1.2.10", "1.2.10.1",
	"1.2.19", "1.2.20", "1.2.30", "1.2.99", "1.2.100", "1.2.127", "1.2.128", "1.2.2147483646", "1.2.2147483647", "1.2.2147483647.0", "1.3", "1.10", "1.20", "1.39",
	"2.0", "2.5.29", "2.5.29.32", "2.5.29.32.0", "2.5.29.37", "2.5.30", "2.39", "2.40", "2.47", "2.48", "2.100", "2.999", "2.2147483647", "2.2147483647.1",
}

// TestLessKnown: P4.4 and P4.5, all pairs of a list in ascending order.
func TestLessKnown(t *testing.T) {
	for i, a := range ordered {
		for j, b := range ordered {
			if want := i < j; oid.Less(a, b) != want {
				t.Errorf("Less(%q, %q) is %v", a, b, !want)
			}
		}
	}
}

// TestUnderKnown: P4.4, an object identifier, those under it, and others with the same beginning of the text.
func TestUnderKnown(t *testing.T) {
	for _, k := range []struct {
		s, base string
		want    bool
	}{
		{"1.2.3", "1.2.3", true}, {"1.2.3.4", "1.2.3", true}, {"1.2.3.4.5", "1.2.3", true}, {"1.2.3.0", "1.2.3", true}, {"1.2.3", "1.2", true},
		{"2.5.29.32.0", "2.5", true}, {"2.5.29.32.0", "2.5.29.32", true}, {"1.2.3.4.5.6.7.8.9.10.11.12", "1.2", true}, {"2.2147483647.1", "2.2147483647", true},
		{"1.2", "1.2.3", false}, {"1.2.3", "1.2.3.4", false}, {"1.2.30", "1.2.3", false}, {"1.2.3", "1.2.30", false}, {"1.20", "1.2", false}, {"1.2.3.40", "1.2.3.4", false},
		{"1.2.4", "1.2.3", false}, {"1.3.3", "1.2.3", false}, {"2.2.3", "1.2.3", false}, {"1.1.2.3", "1.2.3", false}, {"1.2.31.4", "1.2.3", false}, {"1.21.3", "1.2", false},
		{"1.2.3", "1", false}, {"1.2.3", "", false}, {"1.2.3", "1.", false}, {"1.2.3", "1.2.", false}, {"1.2.3", "1.2..", false}, {"1.2.3", ".", false},
		{"1.2.", "1.2", false}, {"1.2.x", "1.2", false}, {"1.2.03", "1.2", false}, {"1.40.1", "1.40", false}, {"1.40", "1.40", false}, {"", "", false}, {"1", "1", false}, {"3.1.2", "3.1", false},
		{"1.2.2147483648", "1.2", false}, {"1.2.3.4.5.6.7.8.9.10.11.12.13", "1.2", false}, {"1.2.3.4.5.6.7.8.9.10.11.12.13", "1.2.3.4.5.6.7.8.9.10.11.12", false},
	} {
		if oid.Under(k.s, k.base) != k.want {
			t.Errorf("Under(%q, %q) is %v", k.s, k.base, !k.want)
		}
	}
}

// TestOrderInvalid: P4.4, nothing is before, behind or under a text that is no object identifier.
func TestOrderInvalid(t *testing.T) {
	valid := []string{"0.0", "1.2", "1.2.3", "2.2147483647"}
	texts := append(long(), invalid...)
	for i, s := range texts {
		for _, other := range append(valid, s, texts[(i+1)%len(texts)]) {
			if oid.Less(s, other) || oid.Less(other, s) {
				t.Errorf("%.50q and %.50q have an order", s, other)
			}
			if oid.Under(s, other) || oid.Under(other, s) {
				t.Errorf("one of %.50q and %.50q is under the other", s, other)
			}
		}
	}
}

// TestOrder: P4.4, all pairs of edges, and random ones, among them the beginnings of others.
func TestOrder(t *testing.T) {
	l := some()
	for _, a := range l {
		for _, b := range l {
			checkOrder(t, a, b)
		}
	}
	r := rand.New(rand.NewSource(6))
	for range 5000 {
		a, b := random(r), random(r)
		checkOrder(t, a, b)
		i := r.Intn(len(a) + 1)
		checkOrder(t, a, a[:i])
		checkOrder(t, a[:i], a)
		checkOrder(t, a, a[:i]+b)
		checkOrder(t, a+"0", a)
		checkOrder(t, a+".0", a)
		checkOrder(t, a, a+".0")
	}
}

// TestLessTotal: P4.5, none is before itself, of two different ones exactly one is before the other, and the order is transitive.
func TestLessTotal(t *testing.T) {
	r := rand.New(rand.NewSource(7))
	l := append(some(), ordered...)
	for range 30 {
		l = append(l, random(r))
	}
	slices.Sort(l)
	l = slices.Compact(l)
	before := make([][]bool, len(l))
	for i, a := range l {
		before[i] = make([]bool, len(l))
		for j, b := range l {
			before[i][j] = oid.Less(a, b)
		}
	}
	for i := range l {
		for j := range l {
			if i == j && before[i][j] || i != j && before[i][j] == before[j][i] {
				t.Fatalf("%q and %q have no order, or two", l[i], l[j])
			}
			for k := range l {
				if before[i][j] && before[j][k] && !before[i][k] {
					t.Fatalf("%q is before %q, that is before %q, but the first is not before the last", l[i], l[j], l[k])
				}
			}
		}
	}
}
