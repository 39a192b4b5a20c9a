package signer_test

import (
	"math/rand"
	"strings"
	"testing"

	"certpath/api"
	"certpath/hash"
	"certpath/merkle"
	"certpath/signer"
)

// Sizes that the chapter and the document say, as numbers.
const (
	seedSize  = 32
	maxHeight = 8
)

// sample returns n bytes, other ones for each number.
func sample(number int64, n int) string {
	b := make([]byte, n)
	rand.New(rand.NewSource(number)).Read(b)
	return string(b)
}

// fill returns n bytes that are all c.
func fill(c byte, n int) string {
	return strings.Repeat(string([]byte{c}), n)
}

// count returns the n bytes from c on.
func count(c byte, n int) string {
	b := make([]byte, n)
	for i := range b {
		b[i] = c + byte(i)
	}
	return string(b)
}

// replace returns s with another byte at a place.
func replace(s string, at int, c byte) string {
	return s[:at] + string([]byte{c}) + s[at+1:]
}

// plan is what a key is made from.
type plan struct {
	seed   string
	height int
}

// plans returns seeds with all heights: the first seed has each of them.
func plans() []plan {
	var l []plan
	for height := range maxHeight + 1 {
		l = append(l, plan{count(0, seedSize), height})
	}
	for i, seed := range []string{
		fill(0, seedSize), fill(0xff, seedSize), count(0xe0, seedSize), hash.Sum("seed"), "a seed that consists of letters.", "KEY1KEY1KEY1KEY1KEY1KEY1KEY1KEY1", strings.Repeat("é", seedSize/2),
		sample(1, seedSize), sample(2, seedSize), sample(3, seedSize),
	} {
		l = append(l, plan{seed, i % 5})
	}
	return l
}

// leaves returns how many leaves a key of a plan has.
func (p plan) leaves() int {
	return []int{1, 2, 4, 8, 16, 32, 64, 128, 256}[p.height]
}

// nexts returns numbers that can be the next leaf: all of them if there are few.
func (p plan) nexts() []int {
	n := p.leaves()
	if n > 8 {
		return []int{0, 1, n / 2, n - 1, n}
	}
	var l []int
	for next := range n + 1 {
		l = append(l, next)
	}
	return l
}

// messages returns messages of several lengths, that of no bytes first.
func messages() []string {
	return []string{"", "\x00", "a", "a message", "a message", "Größe", fill(0, 16), count(0, 16), fill(0xff, 1000), sample(7, 63), sample(8, 64), sample(9, 65)}
}

// trees are those that tree returned, for the tests need many of them again and again.
var trees = map[plan]*merkle.Tree{}

// tree returns the tree of a plan.
func tree(t *testing.T, p plan) *merkle.Tree {
	t.Helper()
	if trees[p] == nil {
		made, err := merkle.Generate(p.seed, p.height)
		if err != api.OK {
			t.Fatalf("merkle.Generate(%x, %d) has the error %d", p.seed, p.height, err)
		}
		trees[p] = made
	}
	return trees[p]
}

// saved puts the bytes of a state together by the words of the chapter.
func saved(p plan, next int) string {
	return "KEY1" + p.seed + string([]byte{byte(p.height)}) + string([]byte{byte(next >> 24), byte(next >> 16), byte(next >> 8), byte(next)})
}

// subject is a signer with what it must be by the words of the chapter. Its methods call those of the signer, compare the results, and then the whole state.
type subject struct {
	s    *signer.Signer
	p    plan
	next int
}

// start returns the signer of a plan with a next leaf, which must have no error.
func start(t *testing.T, p plan, next int) *subject {
	t.Helper()
	s, err := signer.At(p.seed, p.height, next)
	if s == nil || err != api.OK {
		t.Fatalf("At(%x, %d, %d) has the error %d", p.seed, p.height, next, err)
	}
	u := &subject{s, p, next}
	u.check(t)
	return u
}

// check compares what a signer says about itself.
func (u *subject) check(t *testing.T) {
	t.Helper()
	if got, want := u.s.Key(), tree(t, u.p).Key(); got != want {
		t.Errorf("height %d: the key is %x, want %x", u.p.height, got, want)
	}
	if got := u.s.Next(); got != u.next {
		t.Errorf("height %d: the next leaf is %d, want %d", u.p.height, got, u.next)
	}
	if got, want := u.s.Left(), u.p.leaves()-u.next; got != want {
		t.Errorf("height %d, next leaf %d: %d leaves are left, want %d", u.p.height, u.next, got, want)
	}
	if got, want := u.s.Save(), saved(u.p, u.next); got != want {
		t.Errorf("height %d, next leaf %d: the saved state is %x, want %x", u.p.height, u.next, got, want)
	}
}

// sign signs a message, and returns the signature, which is empty if no leaf is left.
func (u *subject) sign(t *testing.T, message string) string {
	t.Helper()
	want, wantErr := "", api.ErrExhausted
	if u.next < u.p.leaves() {
		want, wantErr = tree(t, u.p).Sign(u.next, message)
		u.next++
	}
	got, err := u.s.Sign(message)
	if got != want || err != wantErr {
		t.Errorf("height %d, next leaf %d: Sign(%x) is %x, %d, want %x, %d", u.p.height, u.s.Next(), message, got, err, want, wantErr)
	}
	u.check(t)
	return got
}

// skip skips n leaves.
func (u *subject) skip(t *testing.T, n int) {
	t.Helper()
	want := 0
	for want < n && u.next < u.p.leaves() {
		u.next++
		want++
	}
	if got := u.s.Skip(n); got != want {
		t.Errorf("height %d, next leaf %d: Skip(%d) is %d, want %d", u.p.height, u.s.Next(), n, got, want)
	}
	u.check(t)
}

// fork returns a fork.
func (u *subject) fork(t *testing.T) *subject {
	t.Helper()
	f := u.s.Fork()
	if f == nil || f == u.s {
		t.Fatalf("height %d, next leaf %d: the fork is nil: %t", u.p.height, u.next, f == nil)
	}
	v := &subject{f, u.p, u.next}
	v.check(t)
	u.check(t)
	return v
}

// reload returns the signer that is loaded from what a signer saves.
func (u *subject) reload(t *testing.T) *subject {
	t.Helper()
	l, err := signer.Load(u.s.Save())
	if l == nil || err != api.OK {
		t.Fatalf("height %d, next leaf %d: Load(%x) has the error %d", u.p.height, u.next, u.s.Save(), err)
	}
	v := &subject{l, u.p, u.next}
	v.check(t)
	u.check(t)
	return v
}

// drain signs with all leaves that are left, and twice more.
func (u *subject) drain(t *testing.T) {
	t.Helper()
	for range u.p.leaves() - u.next + 2 {
		u.sign(t, "a message")
	}
	if u.next != u.p.leaves() {
		t.Errorf("height %d: the next leaf is %d at the end", u.p.height, u.next)
	}
}
