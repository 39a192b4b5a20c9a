package hash_test

import (
	"math/rand"
	"testing"

	"certpath/hash"
)

// check reports a stream that is not one to which exactly the bytes of all were written.
func check(t *testing.T, s *hash.Stream, all string) {
	t.Helper()
	if got := s.Len(); got != len(all) {
		t.Errorf("Len is %d, want %d", got, len(all))
	}
	for range 2 { // Sum changes nothing
		if got := s.Sum(); got != want(all) {
			t.Errorf("Sum of a stream of %d bytes is %s, want %s", len(all), hash.Hex(got), hash.Hex(want(all)))
		}
	}
	if got := s.Len(); got != len(all) {
		t.Errorf("Len after Sum is %d, want %d", got, len(all))
	}
}

// TestStreamNothing: P1.3, streams to which nothing was written.
func TestStreamNothing(t *testing.T) {
	var zero hash.Stream
	for _, s := range []*hash.Stream{hash.Start(), &zero, {}, new(hash.Stream), nil} {
		check(t, s, "")
		s.Write("")
		check(t, s, "")
	}
	if hash.Start() == nil {
		t.Error("Start returns a stream that cannot be written to")
	}
}

// TestStreamNil: P1.3, Write to a nil stream has no effect.
func TestStreamNil(t *testing.T) {
	var none *hash.Stream
	for _, b := range []string{"x", sample(64), sample(200)} {
		none.Write(b)
		check(t, none, "")
		check(t, hash.Start(), "")
	}
}

// TestStreamZero: P1.3, a zero stream is like one of Start.
func TestStreamZero(t *testing.T) {
	for _, n := range edges {
		all := sample(n)
		var zero hash.Stream
		zero.Write(all)
		check(t, &zero, all)
		zero.Write(all)
		check(t, &zero, all+all)
	}
}

// TestStreamSum: P1.3, Sum and Len after every byte, while the stream is written to.
func TestStreamSum(t *testing.T) {
	all := sample(300)
	s, unread := hash.Start(), hash.Start()
	for n := range len(all) {
		check(t, s, all[:n])
		s.Write(all[n : n+1])
		unread.Write(all[n : n+1])
	}
	check(t, s, all)
	check(t, unread, all)
}

// TestStreamsIndependent: P1.3 with R5, streams have nothing in common, nor does a copy of one.
func TestStreamsIndependent(t *testing.T) {
	for _, n := range edges {
		all := sample(n)
		a, b := hash.Start(), hash.Start()
		a.Write(all)
		check(t, b, "")
		b.Write("b")
		c := *a
		c.Write("c")
		a.Write("aa")
		check(t, a, all+"aa")
		check(t, b, "b")
		check(t, &c, all+"c")
	}
}

// TestDividedTwice: P1.4, three pieces that end about the ends of blocks, as arguments and as calls of Write.
func TestDividedTwice(t *testing.T) {
	for _, i := range edges {
		for _, j := range edges {
			for _, k := range edges {
				all := sample(i + j + k)
				x, y, z := all[:i], all[i:i+j], all[i+j:]
				s := hash.Start()
				s.Write(x)
				s.Write(y)
				s.Write(z)
				if hash.Sum(x, y, z) != want(all) || s.Sum() != want(all) || s.Len() != len(all) {
					t.Errorf("Sum depends on the division into %d, %d and %d bytes", i, j, k)
				}
			}
		}
	}
}

// TestDividedEvenly: P1.4, pieces of one size.
func TestDividedEvenly(t *testing.T) {
	all := sample(1000)
	for size := 1; size <= len(all); size++ {
		var l []string
		s := hash.Start()
		for at := 0; at < len(all); at += size {
			piece := all[at:min(at+size, len(all))]
			l = append(l, piece)
			s.Write(piece)
		}
		check(t, s, all)
		if hash.Sum(l...) != want(all) || hash.Short(l...) != want(all)[:16] {
			t.Errorf("Sum of pieces of %d bytes differs", size)
		}
	}
}

// TestDividedAtRandom: P1.4, pieces of many sizes, empty ones among them; the same ones in every run.
func TestDividedAtRandom(t *testing.T) {
	random := rand.New(rand.NewSource(1))
	for range 2000 {
		all := sample(random.Intn(700))
		var l []string
		s := hash.Start()
		for rest := all; rest != ""; {
			n := min(random.Intn(1+random.Intn(200)), len(rest))
			l = append(l, rest[:n])
			s.Write(rest[:n])
			rest = rest[n:]
		}
		if hash.Sum(l...) != want(all) || s.Sum() != want(all) || s.Len() != len(all) {
			t.Fatalf("Sum depends on the division of %d bytes into %d pieces", len(all), len(l))
		}
	}
}
