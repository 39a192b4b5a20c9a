package signer_test

import (
	"math"
	"testing"

	"certpath/api"
	"certpath/hash"
	"certpath/merkle"
	"certpath/signer"
)

// TestKnown: P13.1 to P13.3, signatures and saved states that were reckoned by another program, with the SHA-256 of Python.
func TestKnown(t *testing.T) {
	type act struct {
		skip    int
		message string
		sum     string // of the signature
		saved   string // afterwards, from the height on
	}
	for _, k := range []struct {
		seed     string
		height   int
		id, root string
		acts     []act
	}{
		{count(0x40, 32), 2, "c352e3956bf493d343799ba2b2feda6b", "88f1439e2ce21de436e9080e8be65617", []act{
			{0, "first", "728eed2341a570fd383b571a13fc1c03db4913297ee9cf4b2a303ff2d521178a", "0200000001"},
			{1, "", "f2b380ba81082e8efcf9cb4c00ade07605030e10f369c29b2b5f9d203e9d60a5", "0200000003"},
			{0, "last", "f937be76318775f21c1c849c23898f87de9c3f12ab1aab6300fcc91506389f3e", "0200000004"},
		}},
		{fill(0, 32), 0, "22b5ed82e367e006a9444d62149c6c08", "ca7b2d4a0a95fa588584a46c36c59d39", []act{
			{0, "a message", "c4188a41b38d0650d80eb19c69949de6d1cb25d508c1a7e7f9f33c5d0c5988ec", "0000000001"},
		}},
		{fill(0xff, 32), 8, "177a538607c45a53eed7c65448315051", "b8bbee2c77f550d0f88faefaea9bced5", []act{
			{255, "a message", "bb08e686fec85e02c443d73ab46b5868fa3f9e0cfc0b78c6dd27e053ab7f717e", "0800000100"},
		}},
		{count(0xe0, 32), 4, "4fa97e9d2168cea9f311221886ab9e02", "52e0f724da7805dc0b8fa175982aa72c", []act{
			{9, "x", "e01f6386b6a7a7f56af0c4a0aae6988d741c234cfaaf54fa12d93a0e4eb1353f", "040000000a"},
			{0, "y", "3a05c013994c75b4952d3a0f8c014390ec7b009c6721f1273e905992c3aa67fc", "040000000b"},
			{2, "z", "8f2b53ded47d5972869ac3534a402d45eca103c197fb3023d873ba11c4bd1891", "040000000e"},
		}},
	} {
		s, err := signer.New(k.seed, k.height)
		if err != api.OK {
			t.Fatalf("New(%x, %d) has the error %d", k.seed, k.height, err)
		}
		if key := s.Key(); key.Height != k.height || hash.Hex(key.ID) != k.id || hash.Hex(key.Root) != k.root {
			t.Errorf("%x, height %d: the key is %x", k.seed, k.height, key)
		}
		for _, a := range k.acts {
			if marked := s.Skip(a.skip); marked != a.skip {
				t.Errorf("%x, height %d: Skip(%d) is %d", k.seed, k.height, a.skip, marked)
			}
			signature, err := s.Sign(a.message)
			if hash.Hex(hash.Sum(signature)) != a.sum || err != api.OK {
				t.Errorf("%x, height %d: Sign(%q) is %x, %d", k.seed, k.height, a.message, signature, err)
			}
			if got, want := hash.Hex(s.Save()), "4b455931"+hash.Hex(k.seed)+a.saved; got != want {
				t.Errorf("%x, height %d: the saved state after %q is %s, want %s", k.seed, k.height, a.message, got, want)
			}
		}
	}
}

// TestExample: P13.2, the chapter's example.
func TestExample(t *testing.T) {
	s, err := signer.New(sample(20, seedSize), 1)
	if err != api.OK {
		t.Fatalf("New has the error %d", err)
	}
	for i, message := range []string{"a message", "another one"} {
		signature, err := s.Sign(message)
		leaf, ok := merkle.Leaf(signature)
		if err != api.OK || leaf != i || !ok || merkle.Verify(s.Key(), message, signature) != api.OK {
			t.Errorf("Sign(%q) is %x, %d", message, signature, err)
		}
	}
	if signature, err := s.Sign("a third one"); signature != "" || err != api.ErrExhausted {
		t.Errorf("the third signature is %x, %d", signature, err)
	}
}

// TestSign: P13.2, every leaf of every key in turn, and the messages in turn; then ErrExhausted, however often, and whatever the message is.
func TestSign(t *testing.T) {
	for _, p := range plans() {
		u := start(t, p, 0)
		for leaf := range p.leaves() {
			message := messages()[leaf%len(messages())]
			signature := u.sign(t, message)
			if got, ok := merkle.Leaf(signature); got != leaf || !ok {
				t.Errorf("height %d: the signature %d is one with the leaf %d", p.height, leaf, got)
			}
			if err := merkle.Verify(u.s.Key(), message, signature); err != api.OK {
				t.Errorf("height %d: the signature %d does not verify: %d", p.height, leaf, err)
			}
		}
		for _, message := range messages() {
			if signature, err := u.s.Sign(message); signature != "" || err != api.ErrExhausted {
				t.Errorf("height %d: Sign(%x) is %x, %d when no leaf is left", p.height, message, signature, err)
			}
			u.check(t)
		}
	}
}

// TestSignMessages: P13.2, each message with the first and the last leaf, that of no bytes among them, and a long one.
func TestSignMessages(t *testing.T) {
	for _, p := range plans()[:4] {
		for _, message := range append(messages(), sample(21, 1<<20)) {
			start(t, p, 0).sign(t, message)
			start(t, p, p.leaves()-1).sign(t, message)
		}
	}
}

// TestSkip: P13.2, from each state: nothing, some of what is left, exactly that, one more, and numbers that are out of all bounds.
func TestSkip(t *testing.T) {
	for _, p := range plans() {
		for _, next := range p.nexts() {
			u := start(t, p, next)
			left := p.leaves() - next
			for _, n := range []int{0, 1, left / 2, left - 1, left, left + 1, left + 2, 2*left + 1, 256, 257, 1 << 31, 1 << 32, 1<<32 + 1, math.MaxInt - next, math.MaxInt - 1, math.MaxInt, -1, -2, -left, -next, -1 << 31, -1 << 32, math.MinInt, math.MinInt + 1} {
				f := u.fork(t)
				f.skip(t, n)
				f.sign(t, "a message")
				f.skip(t, n)
				f.sign(t, "")
			}
			u.check(t)
		}
	}
}

// TestSkipOne: P13.2, one leaf after the other is marked, until none is left.
func TestSkipOne(t *testing.T) {
	for _, p := range plans() {
		s := start(t, p, 0).s
		for leaf := range p.leaves() + 3 {
			want := 0
			if leaf < p.leaves() {
				want = 1
			}
			if got := s.Skip(1); got != want {
				t.Errorf("height %d, leaf %d: Skip(1) is %d, want %d", p.height, leaf, got, want)
			}
		}
		if signature, err := s.Sign("a message"); signature != "" || err != api.ErrExhausted || s.Next() != p.leaves() || s.Left() != 0 {
			t.Errorf("height %d: Sign is %x, %d when all leaves are marked; the next leaf is %d", p.height, signature, err, s.Next())
		}
	}
}

// TestFork: P13.2, from each state, a fork and its signer: what one of them does does not move the other one, and both go on alike.
func TestFork(t *testing.T) {
	for _, p := range plans() {
		for _, next := range p.nexts() {
			u := start(t, p, next)
			f := u.fork(t)
			f.sign(t, "a message")
			u.check(t)
			u.skip(t, 2)
			f.check(t)
			g := f.fork(t)
			g.skip(t, math.MaxInt)
			f.check(t)
			u.check(t)
			f.sign(t, "another one")
			g.check(t)
			u.sign(t, "another one")
			f.check(t)
			g.sign(t, "")
		}
	}
}

// TestForkAlone: P13.2, a fork goes on when its signer is overwritten, and the other way round.
func TestForkAlone(t *testing.T) {
	p, q := plan{sample(22, seedSize), 3}, plan{sample(23, seedSize), 1}
	u := start(t, p, 2)
	f := u.fork(t)
	*u.s = *start(t, q, 0).s
	f.check(t)
	f.sign(t, "a message")
	g := f.fork(t)
	*f.s = signer.Signer{}
	g.drain(t)
	(&subject{u.s, q, 0}).drain(t)
}
