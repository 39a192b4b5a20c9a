package signer_test

import (
	"math"
	"testing"

	"certpath/api"
	"certpath/signer"
)

// TestSave: P13.3, from each state, and after each signature; check puts the bytes together by itself.
func TestSave(t *testing.T) {
	for _, p := range plans() {
		for _, next := range p.nexts() {
			u := start(t, p, next)
			if n := len(u.s.Save()); n != 41 {
				t.Errorf("height %d: a saved state has %d bytes", p.height, n)
			}
			u.sign(t, "a message")
			u.skip(t, 1)
			u.sign(t, "")
		}
	}
}

// TestLoad: P13.3, before the first signature, between two and behind the last one; the loaded signer goes on with the same signatures, and what one of them does does not move the other one.
func TestLoad(t *testing.T) {
	for _, p := range plans()[:4] {
		u := start(t, p, 0)
		for range p.leaves() + 1 {
			l := u.reload(t)
			l.sign(t, "a message")
			u.check(t)
			l.drain(t)
			u.check(t)
			u.sign(t, "a message")
			l.check(t)
		}
	}
	for _, p := range plans()[4:] {
		for _, next := range p.nexts() {
			l := start(t, p, next).reload(t)
			l.sign(t, "a message")
			l.reload(t).skip(t, math.MaxInt)
		}
	}
}

// TestLoadMade: P13.3, states that the test puts together, which no signer has saved before.
func TestLoadMade(t *testing.T) {
	for _, p := range plans() {
		for _, next := range p.nexts() {
			checkLoad(t, saved(p, next))
		}
	}
}

// checkLoad compares Load with P13.3, and returns its error.
func checkLoad(t *testing.T, b string) api.Errno {
	t.Helper()
	want := api.ErrValue
	var p plan
	next := 0
	if len(b) == 41 && b[:4] == "KEY1" && b[36] <= maxHeight {
		p = plan{b[4:36], int(b[36])}
		next = int(b[37])*0x1000000 + int(b[38])*0x10000 + int(b[39])*0x100 + int(b[40])
		if next <= p.leaves() {
			want = api.OK
		}
	}
	s, err := signer.Load(b)
	if err != want || (s == nil) != (want != api.OK) {
		t.Errorf("Load(%x) has the error %d, want %d; the signer is nil: %t", b, err, want, s == nil)
	} else if want == api.OK {
		(&subject{s, p, next}).check(t)
	}
	return err
}

// TestLoadSizes: P13.3, strings of every length, the beginnings of a saved state and what is longer than it.
func TestLoadSizes(t *testing.T) {
	b := saved(plan{count(0, 32), 1}, 1)
	for _, long := range []string{b + b + b, b + fill(0, 100), fill(0, 4) + b + b + b} {
		for n := range 100 {
			if err := checkLoad(t, long[:n]); (err == api.OK) != (long[:n] == b) {
				t.Errorf("Load(%x) has the error %d", long[:n], err)
			}
		}
	}
	for _, other := range []string{"", "K", "KEY1", "KEY1" + count(0, 32), b[1:], b[:40], b + "\x00", "\x00" + b, b + b, b + fill(0xff, 1<<20)} {
		if checkLoad(t, other) != api.ErrValue {
			t.Errorf("Load(%x) has no error", other)
		}
	}
}

// TestLoadWord: P13.3, another first word.
func TestLoadWord(t *testing.T) {
	b := saved(plan{count(0, 32), 1}, 1)
	for _, word := range []string{"KEY2", "KEY0", "key1", "Key1", "KEY\x01", "KEY ", " KEY", "1YEK", "LOG1", "\x00\x00\x00\x00", "\xff\xff\xff\xff", "KEé"} {
		if checkLoad(t, word+b[4:]) != api.ErrValue {
			t.Errorf("Load with the word %q has no error", word)
		}
	}
}

// TestLoadHeight: P13.3, every height that a byte can say, with the next leaves 0 and 1 and with the greatest one of that height.
func TestLoadHeight(t *testing.T) {
	for height := range 256 {
		for _, next := range []int{0, 1, 1 << min(height, 20)} {
			p := plan{count(0, 32), height}
			if err := checkLoad(t, saved(p, next)); (err == api.OK) != (height <= maxHeight) {
				t.Errorf("Load with the height %d and the next leaf %d has the error %d", height, next, err)
			}
		}
	}
}

// TestLoadNext: P13.3, next leaves about 2^height, and those of which a single bit is not 0, each of the 32 bits with some of the heights.
func TestLoadNext(t *testing.T) {
	for height := range 4 {
		p := plan{count(0, 32), height}
		for next := range 300 {
			if err := checkLoad(t, saved(p, next)); (err == api.OK) != (next <= p.leaves()) {
				t.Errorf("Load with the height %d and the next leaf %d has the error %d", height, next, err)
			}
		}
	}
	for height := range maxHeight + 1 {
		p := plan{count(0, 32), height}
		n := p.leaves()
		for _, next := range []int{n - 1, n, n + 1, 2 * n, n << 8, 1<<32 - 1} {
			checkLoad(t, saved(p, next))
		}
		for bit := height % 4; bit < 32; bit += 4 {
			checkLoad(t, saved(p, 1<<bit))
		}
	}
}

// TestLoadChanged: P13.3, saved states of which a byte is changed: they are refused, or they are those of another signer, with another seed, height or next leaf.
func TestLoadChanged(t *testing.T) {
	for _, b := range []string{saved(plan{count(0, 32), 1}, 1), saved(plan{sample(30, 32), 0}, 0), saved(plan{fill(0xff, 32), 2}, 4)} {
		for at := range b {
			for _, by := range []byte{1, 2, 4, 8, 0x10, 0x20, 0x40, 0x80, 0xff} {
				changed := replace(b, at, b[at]^by)
				err := checkLoad(t, changed)
				if s, _ := signer.Load(changed); err == api.OK && s.Save() != changed {
					t.Errorf("Load(%x) is a signer that saves %x", changed, s.Save())
				}
			}
		}
	}
}

// TestLoadCut: P13.3, saved states with a byte left out or put in at any place, and with parts in another order.
func TestLoadCut(t *testing.T) {
	b := saved(plan{count(0x10, 32), 2}, 3)
	for at := range b {
		if checkLoad(t, b[:at]+b[at+1:]) != api.ErrValue || checkLoad(t, b[:at]+"\x00"+b[at:]) != api.ErrValue {
			t.Errorf("Load has no error for a change of the size at %d", at)
		}
	}
	for _, other := range []string{
		b[4:] + b[:4], b[:4] + b[36:] + b[4:36], b[:4] + b[36:37] + b[4:36] + b[37:], b[:36] + b[37:] + b[36:37],
		b[:36] + "\x02\x03\x00\x00\x00", b[:36] + "\x03\x02\x00\x00\x00", b[:36] + "\x02\x00\x00\x03\x00", b[:36] + "\x00\x00\x00\x02\x03",
	} {
		if checkLoad(t, other) != api.ErrValue {
			t.Errorf("Load(%x) has no error", other)
		}
	}
}
