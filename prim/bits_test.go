package prim_test

import (
	"strings"
	"testing"

	"certpath/api"
	"certpath/prim"
)

// endsWithZeros reports whether the last n bits of b exist and are 0. It is true for n = 0.
func endsWithZeros(b string, n int) bool {
	return strings.HasSuffix(digits(b), strings.Repeat("0", n))
}

// checkBits compares Bits with P3.3, and with PutBits.
func checkBits(t *testing.T, c string) {
	t.Helper()
	wantB, wantUnused, wantErr := "", 0, api.ErrValue
	if c != "" && c[0] <= 7 && endsWithZeros(c[1:], int(c[0])) {
		wantB, wantUnused, wantErr = c[1:], int(c[0]), api.OK
	}
	b, unused, err := prim.Bits(c)
	if b != wantB || unused != wantUnused || err != wantErr {
		t.Fatalf("Bits(%q) is %q, %d, %d, want %q, %d, %d", c, b, unused, err, wantB, wantUnused, wantErr)
	}
	if err != api.OK {
		return
	}
	if again, err := prim.PutBits(b, unused); again != c || err != api.OK {
		t.Fatalf("Bits accepts %q, but PutBits writes %q, %d", c, again, err)
	}
}

// checkPutBits compares PutBits with P3.3, and with Bits.
func checkPutBits(t *testing.T, b string, unused int) {
	t.Helper()
	want, wantErr := "", api.OK
	switch {
	case unused < 0 || unused > 7:
		wantErr = api.ErrRange
	case !endsWithZeros(b, unused):
		wantErr = api.ErrValue
	default:
		want = string([]byte{byte(unused)}) + b
	}
	c, err := prim.PutBits(b, unused)
	if c != want || err != wantErr {
		t.Fatalf("PutBits(%q, %d) is %q, %d, want %q, %d", b, unused, c, err, want, wantErr)
	}
	if err != api.OK {
		return
	}
	if again, n, err := prim.Bits(c); again != b || n != unused || err != api.OK {
		t.Fatalf("Bits of PutBits(%q, %d) is %q, %d, %d", b, unused, again, n, err)
	}
}

// TestBitsKnown: P3.3, contents that are written out here.
func TestBitsKnown(t *testing.T) {
	for _, k := range []struct {
		c      string
		b      string
		unused int
		err    api.Errno
	}{
		{"\x00", "", 0, api.OK},
		{"\x00a", "a", 0, api.OK},
		{"\x00\x00", "\x00", 0, api.OK},
		{"\x00\xff\xff", "\xff\xff", 0, api.OK},
		{"\x01\xfe", "\xfe", 1, api.OK},
		{"\x07\x80", "\x80", 7, api.OK},
		{"\x07\x00", "\x00", 7, api.OK},
		{"\x04\xff\xf0", "\xff\xf0", 4, api.OK},
		{"", "", 0, api.ErrValue},
		{"\x01", "", 0, api.ErrValue},
		{"\x07", "", 0, api.ErrValue},
		{"\x08", "", 0, api.ErrValue},
		{"\x08\x00", "", 0, api.ErrValue},
		{"\x08\x00\x00", "", 0, api.ErrValue},
		{"\xff\x00", "", 0, api.ErrValue},
		{"\x01\x01", "", 0, api.ErrValue},
		{"\x02\x02", "", 0, api.ErrValue},
		{"\x07\x40", "", 0, api.ErrValue},
		{"\x07\x01", "", 0, api.ErrValue},
		{"\x04\xf0\xff", "", 0, api.ErrValue},
	} {
		b, unused, err := prim.Bits(k.c)
		if b != k.b || unused != k.unused || err != k.err {
			t.Errorf("Bits(%q) is %q, %d, %d, want %q, %d, %d", k.c, b, unused, err, k.b, k.unused, k.err)
		}
	}
}

// TestBitsUnused: P3.3, each number of unused bits, and each bit of the last byte.
func TestBitsUnused(t *testing.T) {
	for unused := range 8 {
		for bit := range 8 {
			last := string([]byte{1 << bit})
			for _, before := range []string{"", "\x00", "\xff", "abc"} {
				c := string([]byte{byte(unused)}) + before + last
				want := api.OK
				if bit < unused {
					want = api.ErrValue
				}
				if _, _, err := prim.Bits(c); err != want {
					t.Errorf("Bits(%q) returns error %d, want %d", c, err, want)
				}
				if _, err := prim.PutBits(before+last, unused); err != want {
					t.Errorf("PutBits(%q, %d) returns error %d, want %d", before+last, unused, err, want)
				}
			}
		}
	}
}

// TestBits: P3.3 and P3.5, every short string, random ones, and long ones.
func TestBits(t *testing.T) {
	eachShort(func(c string) { checkBits(t, c) })
	eachRandom(3, 300000, func(c string) { checkBits(t, c) })
	for _, last := range []string{"\x00", "\x01", "\x80"} {
		long := strings.Repeat("\xff", 1<<16) + last
		for first := range 9 {
			checkBits(t, string([]byte{byte(first)})+long)
		}
	}
}

// TestPutBits: P3.3 and P3.5, every short string with every number of unused bits, and with numbers that are none.
func TestPutBits(t *testing.T) {
	eachShort(func(b string) {
		for unused := -1; unused <= 8; unused++ {
			if len(b) < 3 {
				checkPutBits(t, b, unused)
			}
		}
	})
	eachRandom(4, 100000, func(b string) { checkPutBits(t, b, len(b)%9) })
}

// TestPutBitsErrors: P3.3, ErrRange comes first; numbers that are 0 to 7 modulo 256 or more are out of range.
func TestPutBitsErrors(t *testing.T) {
	for _, unused := range []int{-1, -8, 8, 9, 255, 256, 257, 263, -256, -249, 1 << 32, 1<<32 + 1, -1 << 63, 1<<63 - 1} {
		for _, b := range []string{"", "\x00", "\xff", "a\x00"} {
			if c, err := prim.PutBits(b, unused); c != "" || err != api.ErrRange {
				t.Errorf("PutBits(%q, %d) is %q, %d, want ErrRange", b, unused, c, err)
			}
		}
	}
	for unused := 1; unused < 8; unused++ {
		for _, b := range []string{"", "\xff", "\x01", "\x00\xff", "\x00\x01"} {
			if c, err := prim.PutBits(b, unused); c != "" || err != api.ErrValue {
				t.Errorf("PutBits(%q, %d) is %q, %d, want ErrValue", b, unused, c, err)
			}
		}
	}
	if c, err := prim.PutBits("", 0); c != "\x00" || err != api.OK {
		t.Errorf("PutBits of no bits is %q, %d", c, err)
	}
}
