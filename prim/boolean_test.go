package prim_test

import (
	"strings"
	"testing"

	"certpath/api"
	"certpath/prim"
)

// checkBoolean compares Boolean with P3.1.
func checkBoolean(t *testing.T, c string) {
	t.Helper()
	want := api.ErrValue
	if c == "\x00" || c == "\xff" {
		want = api.OK
	}
	v, err := prim.Boolean(c)
	if v != (c == "\xff") || err != want {
		t.Errorf("Boolean(%q) is %v, %d, want error %d", c, v, err, want)
	}
	if err == api.OK && prim.PutBoolean(v) != c {
		t.Errorf("Boolean accepts %q, but PutBoolean writes %q", c, prim.PutBoolean(v))
	}
}

// TestBoolean: P3.1 and P3.5, contents of no byte, every single one, and several.
func TestBoolean(t *testing.T) {
	eachShort(func(c string) { checkBoolean(t, c) })
	for _, c := range []string{"\x00\x00", "\xff\xff", "\x00\xff", "\xff\x00", "0", "1", "true", strings.Repeat("\x00", 1000)} {
		checkBoolean(t, c)
	}
}

// TestPutBoolean: P3.1 and P3.5, the contents of both values.
func TestPutBoolean(t *testing.T) {
	for v, want := range map[bool]string{false: "\x00", true: "\xff"} {
		c := prim.PutBoolean(v)
		if c != want {
			t.Errorf("PutBoolean(%v) is %q, want %q", v, c, want)
		}
		if again, err := prim.Boolean(c); again != v || err != api.OK {
			t.Errorf("Boolean of PutBoolean(%v) is %v, %d", v, again, err)
		}
	}
}
