package prim_test

import (
	"strings"
	"testing"

	"certpath/api"
	"certpath/prim"
)

// flags is P3.4, by the list as digits.
func flags(c string) (int, api.Errno) {
	b, unused, err := prim.Bits(c)
	if err != api.OK {
		return 0, err
	}
	all := digits(b)
	list := all[:len(all)-unused]
	if strings.HasSuffix(list, "0") {
		return 0, api.ErrValue
	}
	if len(list) > 16 {
		return 0, api.ErrRange
	}
	mask, weight := 0, 1
	for _, d := range list {
		if d == '1' {
			mask += weight
		}
		weight *= 2
	}
	return mask, api.OK
}

// checkFlags compares Flags with the model, and with PutFlags.
func checkFlags(t *testing.T, c string) {
	t.Helper()
	want, wantErr := flags(c)
	mask, err := prim.Flags(c)
	if mask != want || err != wantErr {
		t.Fatalf("Flags(%q) is %d, %d, want %d, %d", c, mask, err, want, wantErr)
	}
	if err != api.OK {
		return
	}
	if again, err := prim.PutFlags(mask); again != c || err != api.OK {
		t.Fatalf("Flags accepts %q, but PutFlags writes %q, %d", c, again, err)
	}
}

// TestFlagsKnown: P3.4, lists that are written out here.
func TestFlagsKnown(t *testing.T) {
	for _, k := range []struct {
		mask int
		c    string
	}{
		{0, "\x00"},
		{1, "\x07\x80"},
		{2, "\x06\x40"},
		{3, "\x06\xc0"},
		{6, "\x05\x60"},
		{api.UseCerts, "\x02\x04"},
		{api.UseCerts | api.UseLists, "\x01\x06"},
		{128, "\x00\x01"},
		{255, "\x00\xff"},
		{256, "\x07\x00\x80"},
		{257, "\x07\x80\x80"},
		{api.AllUses, "\x07\xff\x80"},
		{api.AllReasons, "\x07\x7f\x80"},
		{1 << 14, "\x01\x00\x02"},
		{1 << 15, "\x00\x00\x01"},
		{65534, "\x00\x7f\xff"},
		{65535, "\x00\xff\xff"},
	} {
		if c, err := prim.PutFlags(k.mask); c != k.c || err != api.OK {
			t.Errorf("PutFlags(%d) is %q, %d, want %q", k.mask, c, err, k.c)
		}
		if mask, err := prim.Flags(k.c); mask != k.mask || err != api.OK {
			t.Errorf("Flags(%q) is %d, %d, want %d", k.c, mask, err, k.mask)
		}
	}
}

// TestFlagsErrors: P3.4, the errors of Bits; then a last bit that is 0, also of a list that is too long; then lists that are too long alone.
func TestFlagsErrors(t *testing.T) {
	long := strings.Repeat("\xff", 1<<16)
	for _, k := range []struct {
		c    string
		want api.Errno
	}{
		{"", api.ErrValue}, {"\x01", api.ErrValue}, {"\x08\x00", api.ErrValue}, {"\x07\x81", api.ErrValue},
		{"\x08\xff\xff\xff", api.ErrValue}, {"\x01\xff\xff\xff", api.ErrValue},
		{"\x00\x00", api.ErrValue}, {"\x07\x00", api.ErrValue}, {"\x06\x80", api.ErrValue}, {"\x00\xfe", api.ErrValue},
		{"\x00\x80\x00", api.ErrValue}, {"\x07\xff\x00", api.ErrValue},
		{"\x00\x00\x00\x00", api.ErrValue}, {"\x00\xff\xff\x00", api.ErrValue}, {"\x07\xff\xff\x00", api.ErrValue}, {"\x00" + long + "\xfe", api.ErrValue},
		{"\x07\x00\x00\x80", api.ErrRange}, {"\x07\xff\xff\x80", api.ErrRange}, {"\x00\x00\x00\x01", api.ErrRange}, {"\x00\xff\xff\xff", api.ErrRange},
		{"\x03\x00\x00\x00\x08", api.ErrRange}, {"\x00" + long, api.ErrRange}, {"\x07" + long + "\x80", api.ErrRange},
	} {
		if mask, err := prim.Flags(k.c); mask != 0 || err != k.want {
			t.Errorf("Flags of %d bytes % .5x is %d, %d, want error %d", len(k.c), k.c, mask, err, k.want)
		}
	}
}

// TestFlags: P3.4 and P3.5, every short string and random ones.
func TestFlags(t *testing.T) {
	eachShort(func(c string) { checkFlags(t, c) })
	eachRandom(5, 300000, func(c string) { checkFlags(t, c) })
}

// TestPutFlags: P3.4 and P3.5, every mask; the model refuses lists with zero bits at the end.
func TestPutFlags(t *testing.T) {
	for mask := range 65536 {
		c, err := prim.PutFlags(mask)
		if err != api.OK {
			t.Fatalf("PutFlags(%d) returns error %d", mask, err)
		}
		if again, err := flags(c); again != mask || err != api.OK {
			t.Fatalf("PutFlags(%d) is %q, which is %d, error %d", mask, c, again, err)
		}
		checkFlags(t, c)
	}
}

// TestPutFlagsErrors: P3.4, numbers that are no masks.
func TestPutFlagsErrors(t *testing.T) {
	for _, mask := range []int{-1, -2, -65535, -65536, 65536, 65537, 1 << 17, 1<<16 + 6, 1 << 32, 1<<32 + 1, -1 << 63, 1<<63 - 1} {
		if c, err := prim.PutFlags(mask); c != "" || err != api.ErrRange {
			t.Errorf("PutFlags(%d) is %q, %d, want ErrRange", mask, c, err)
		}
	}
}
