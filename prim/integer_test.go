package prim_test

import (
	"math"
	"math/big"
	"math/rand"
	"strings"
	"testing"

	"certpath/api"
	"certpath/prim"
)

// integer is P3.2, by the bits of c and with numbers of any size.
func integer(c string) (int, api.Errno) {
	if c == "" {
		return 0, api.ErrValue
	}
	bits := digits(c)
	if len(c) > 1 && (bits[:9] == "000000000" || bits[:9] == "111111111") {
		return 0, api.ErrValue
	}
	if len(c) > 8 {
		return 0, api.ErrRange
	}
	v := new(big.Int).SetBytes([]byte(c))
	if bits[0] == '1' {
		v.Sub(v, new(big.Int).Lsh(big.NewInt(1), uint(len(bits))))
	}
	return int(v.Int64()), api.OK
}

// checkInteger compares Integer with the model, and with PutInteger.
func checkInteger(t *testing.T, c string) {
	t.Helper()
	want, wantErr := integer(c)
	v, err := prim.Integer(c)
	if v != want || err != wantErr {
		t.Fatalf("Integer(%q) is %d, %d, want %d, %d", c, v, err, want, wantErr)
	}
	if err == api.OK && prim.PutInteger(v) != c {
		t.Fatalf("Integer accepts %q, but PutInteger writes %q", c, prim.PutInteger(v))
	}
}

// checkPutInteger examines the contents for v.
func checkPutInteger(t *testing.T, v int) {
	t.Helper()
	c := prim.PutInteger(v)
	if want, err := integer(c); want != v || err != api.OK {
		t.Fatalf("PutInteger(%d) is %q, which is %d, error %d", v, c, want, err)
	}
	checkInteger(t, c)
}

// TestIntegerKnown: P3.2, contents that are written out here.
func TestIntegerKnown(t *testing.T) {
	for _, k := range []struct {
		v int
		c string
	}{
		{0, "\x00"}, {1, "\x01"}, {-1, "\xff"}, {-2, "\xfe"},
		{127, "\x7f"}, {128, "\x00\x80"}, {129, "\x00\x81"}, {255, "\x00\xff"}, {256, "\x01\x00"},
		{-127, "\x81"}, {-128, "\x80"}, {-129, "\xff\x7f"}, {-255, "\xff\x01"}, {-256, "\xff\x00"}, {-257, "\xfe\xff"},
		{32767, "\x7f\xff"}, {32768, "\x00\x80\x00"}, {-32768, "\x80\x00"}, {-32769, "\xff\x7f\xff"},
		{1<<31 - 1, "\x7f\xff\xff\xff"}, {1 << 31, "\x00\x80\x00\x00\x00"}, {-1 << 31, "\x80\x00\x00\x00"},
		{1<<55 - 1, "\x7f\xff\xff\xff\xff\xff\xff"}, {1 << 55, "\x00\x80\x00\x00\x00\x00\x00\x00"},
		{-1 << 55, "\x80\x00\x00\x00\x00\x00\x00"}, {-1<<55 - 1, "\xff\x7f\xff\xff\xff\xff\xff\xff"},
		{api.MaxSerial, "\x40\x00\x00\x00\x00\x00\x00\x00"}, {0x0123456789abcdef, "\x01\x23\x45\x67\x89\xab\xcd\xef"},
		{math.MaxInt, "\x7f\xff\xff\xff\xff\xff\xff\xff"}, {math.MinInt, "\x80\x00\x00\x00\x00\x00\x00\x00"},
		{math.MinInt + 1, "\x80\x00\x00\x00\x00\x00\x00\x01"},
	} {
		if c := prim.PutInteger(k.v); c != k.c {
			t.Errorf("PutInteger(%d) is %q, want %q", k.v, c, k.c)
		}
		if v, err := prim.Integer(k.c); v != k.v || err != api.OK {
			t.Errorf("Integer(%q) is %d, %d, want %d", k.c, v, err, k.v)
		}
	}
}

// TestIntegerErrors: P3.2, a first byte to spare, also in contents that are too long; then contents that are too long alone.
func TestIntegerErrors(t *testing.T) {
	for _, k := range []struct {
		c    string
		want api.Errno
	}{
		{"", api.ErrValue},
		{"\x00\x00", api.ErrValue}, {"\x00\x01", api.ErrValue}, {"\x00\x7f", api.ErrValue}, {"\x00\x7f\xff", api.ErrValue},
		{"\xff\xff", api.ErrValue}, {"\xff\x80", api.ErrValue}, {"\xff\x80\x00", api.ErrValue},
		{"\x00\x00\x80", api.ErrValue}, {"\xff\xff\x7f", api.ErrValue},
		{"\x00\x7f\xff\xff\xff\xff\xff\xff\xff", api.ErrValue}, {"\xff\x80\x00\x00\x00\x00\x00\x00\x00", api.ErrValue},
		{strings.Repeat("\x00", 9), api.ErrValue}, {strings.Repeat("\xff", 9), api.ErrValue}, {strings.Repeat("\x00", 1000), api.ErrValue},
		{"\x00\x80\x00\x00\x00\x00\x00\x00\x00", api.ErrRange}, {"\xff\x7f\xff\xff\xff\xff\xff\xff\xff", api.ErrRange},
		{"\x01\x00\x00\x00\x00\x00\x00\x00\x00", api.ErrRange}, {"\x80\x00\x00\x00\x00\x00\x00\x00\x00", api.ErrRange},
		{"\x7f" + strings.Repeat("\xff", 100000), api.ErrRange},
	} {
		if v, err := prim.Integer(k.c); v != 0 || err != k.want {
			t.Errorf("Integer of %d bytes % .10x is %d, %d, want error %d", len(k.c), k.c, v, err, k.want)
		}
	}
}

// TestIntegerLeading: P3.2, each length up to 12 with the first bytes 0 and 255 and their neighbours.
func TestIntegerLeading(t *testing.T) {
	edges := []string{"\x00", "\x01", "\x7e", "\x7f", "\x80", "\x81", "\xfe", "\xff"}
	for rest := range 11 {
		for _, first := range edges {
			for _, second := range edges {
				for _, b := range edges {
					checkInteger(t, first+second+strings.Repeat(b, rest))
				}
			}
		}
	}
}

// TestInteger: P3.2 and P3.5, every short string and random ones.
func TestInteger(t *testing.T) {
	eachShort(func(c string) { checkInteger(t, c) })
	eachRandom(1, 300000, func(c string) { checkInteger(t, c) })
}

// TestPutInteger: P3.2 and P3.5, numbers about the ends of each number of bytes, small ones, and random ones of each size.
func TestPutInteger(t *testing.T) {
	for shift := range 64 {
		for near := -3; near <= 3; near++ {
			checkPutInteger(t, 1<<shift+near)
			checkPutInteger(t, -1<<shift+near)
		}
	}
	for v := -70000; v < 70000; v++ {
		checkPutInteger(t, v)
	}
	r := rand.New(rand.NewSource(2))
	for range 300000 {
		checkPutInteger(t, int(r.Uint64())>>r.Intn(64))
	}
}

// TestPutIntegerSize: P3.2, the greatest and the least number of each number of bytes, and the first ones that need so many.
func TestPutIntegerSize(t *testing.T) {
	for size := 1; size <= 8; size++ {
		greatest := math.MaxInt >> (64 - 8*size)
		least := -greatest - 1
		for _, v := range []int{greatest, least, greatest/256 + 1, least/256 - 1} {
			if c := prim.PutInteger(v); len(c) != size {
				t.Errorf("PutInteger(%d) has %d bytes, want %d", v, len(c), size)
			}
		}
	}
}
