package tlv_test

import (
	"math/rand"
	"slices"
	"strings"
	"testing"

	"certpath/api"
	"certpath/tlv"
)

// TestWrapKnown: P2.4, elements whose bytes are written out here.
func TestWrapKnown(t *testing.T) {
	x := strings.Repeat("x", api.MaxBytes)
	for _, c := range []struct {
		tag      int
		contents []string
		want     string
	}{
		{api.TagOctets, []string{"ab"}, "\x04\x02ab"},
		{api.TagOctets, []string{"a", "", "b"}, "\x04\x02ab"},
		{api.TagSequence, []string{"\x05\x00", "\x01\x01\xff"}, "\x30\x05\x05\x00\x01\x01\xff"},
		{api.TagNull, nil, "\x05\x00"},
		{api.TagNull, []string{""}, "\x05\x00"},
		{api.TagNull, []string{"", "", ""}, "\x05\x00"},
		{0, nil, "\x00\x00"},
		{0xfe, []string{"\x1f"}, "\xfe\x01\x1f"},
		{4, []string{x[:127]}, "\x04\x7f" + x[:127]},
		{4, []string{x[:128]}, "\x04\x81\x80" + x[:128]},
		{4, []string{x[:129]}, "\x04\x81\x81" + x[:129]},
		{4, []string{x[:255]}, "\x04\x81\xff" + x[:255]},
		{4, []string{x[:256]}, "\x04\x82\x01\x00" + x[:256]},
		{4, []string{x[:257]}, "\x04\x82\x01\x01" + x[:257]},
		{4, []string{x[:65535]}, "\x04\x82\xff\xff" + x[:65535]},
		{4, []string{x[:65536]}, "\x04\x83\x01\x00\x00" + x[:65536]},
		{4, []string{x[:65537]}, "\x04\x83\x01\x00\x01" + x[:65537]},
		{4, []string{x[:131071]}, "\x04\x83\x01\xff\xff" + x[:131071]},
		{4, []string{x[:131072]}, "\x04\x83\x02\x00\x00" + x},
		{4, []string{x[:65536], x[65536:]}, "\x04\x83\x02\x00\x00" + x},
	} {
		if b, err := tlv.Wrap(c.tag, c.contents...); b != c.want || err != api.OK {
			t.Errorf("Wrap(%d, ..) of %d contents is %d bytes % .8x.., error %d, want %d bytes % .8x..", c.tag, len(c.contents), len(b), b, err, len(c.want), c.want)
		}
	}
}

// TestWrapTags: P2.4, every identifier octet, and numbers that are none.
func TestWrapTags(t *testing.T) {
	for tag := -600; tag < 600; tag++ {
		b, err := tlv.Wrap(tag, "a")
		if tag < 0 || tag > 255 || tag%32 == 31 {
			if b != "" || err != api.ErrTag {
				t.Errorf("Wrap(%d, ..) is %q, %d, want ErrTag", tag, b, err)
			}
		} else if b != string([]byte{byte(tag), 1, 'a'}) || err != api.OK {
			t.Errorf("Wrap(%d, ..) is %q, %d", tag, b, err)
		}
	}
	for _, tag := range []int{1 << 62, -1 << 63, 1<<63 - 1, 1<<32 + 4, -252} {
		if b, err := tlv.Wrap(tag); b != "" || err != api.ErrTag {
			t.Errorf("Wrap(%d) is %q, %d, want ErrTag", tag, b, err)
		}
	}
}

// TestWrapErrors: P2.4, too many contents octets in one string or in several; ErrTag comes first.
func TestWrapErrors(t *testing.T) {
	x := strings.Repeat("x", 1<<20)
	for _, contents := range [][]string{
		{x[:api.MaxBytes+1]},
		{x},
		{x[:api.MaxBytes], "x"},
		{"x", x[:api.MaxBytes]},
		{"x", x[:api.MaxBytes], "", "x"},
		{x, x, x},
		slices.Repeat([]string{x[:1000]}, 132),
	} {
		if b, err := tlv.Wrap(api.TagSequence, contents...); b != "" || err != api.ErrLength {
			t.Errorf("Wrap of %d contents is %d bytes, error %d, want ErrLength", len(contents), len(b), err)
		}
		for _, tag := range []int{-1, 0x1f, 0xff, 256} {
			if b, err := tlv.Wrap(tag, contents...); b != "" || err != api.ErrTag {
				t.Errorf("Wrap(%d, ..) of too much is %d bytes, error %d, want ErrTag", tag, len(b), err)
			}
		}
	}
	many := slices.Repeat([]string{x[:1000]}, 131)
	if b, err := tlv.Wrap(api.TagSequence, many...); len(b) != 5+131000 || err != api.OK {
		t.Errorf("Wrap of many contents is %d bytes, error %d", len(b), err)
	}
}

// TestWrapKeepsArguments: R3, the slice of a caller is not changed, even if it has room for more.
func TestWrapKeepsArguments(t *testing.T) {
	all := []string{"b", "a", "kept"}
	if _, err := tlv.Wrap(api.TagSequence, all[:2]...); err != api.OK || !slices.Equal(all, []string{"b", "a", "kept"}) {
		t.Errorf("Wrap has changed its arguments to %q, error %d", all, err)
	}
}

// TestOrder: P2.5, ascending order by bytes; equal strings stay.
func TestOrder(t *testing.T) {
	for _, c := range []struct {
		l    []string
		want string
	}{
		{nil, ""},
		{[]string{}, ""},
		{[]string{""}, ""},
		{[]string{"a"}, "a"},
		{[]string{"b", "a"}, "ab"},
		{[]string{"a", "b"}, "ab"},
		{[]string{"b", "a", "b", "a"}, "aabb"},
		{[]string{"ab", "a", ""}, "aab"},
		{[]string{"ba", "b"}, "bba"},
		{[]string{"b", "ba"}, "bba"},
		{[]string{"\xff", "\x7f", "\x80", "\x00"}, "\x00\x7f\x80\xff"},
		{[]string{"é", "z", "Z"}, "Zzé"},
		{[]string{"10", "9", "100"}, "101009"},
	} {
		if got := tlv.Order(c.l...); got != c.want {
			t.Errorf("Order(%q) is %q, want %q", c.l, got, c.want)
		}
	}
}

// TestOrderKeepsArguments: R3, the slice of a caller is not sorted.
func TestOrderKeepsArguments(t *testing.T) {
	l := []string{"c", "b", "a", "b"}
	if got := tlv.Order(l...); got != "abbc" || !slices.Equal(l, []string{"c", "b", "a", "b"}) {
		t.Errorf("Order is %q and leaves %q", got, l)
	}
}

// TestOrderRandom: P2.5, every arrangement of some strings has the same result, in which they are Ascending.
func TestOrderRandom(t *testing.T) {
	r := rand.New(rand.NewSource(5))
	for range 2000 {
		var l []string
		for range r.Intn(40) {
			l = append(l, wrap(t, r.Intn(31), strings.Repeat("\x00", r.Intn(3)), string([]byte{byte(r.Intn(3))})))
		}
		want := strings.Join(slices.Sorted(slices.Values(l)), "")
		r.Shuffle(len(l), func(i, j int) { l[i], l[j] = l[j], l[i] })
		got := tlv.Order(l...)
		if got != want {
			t.Fatalf("Order(%q) is %q, want %q", l, got, want)
		}
		if parts, err := tlv.List(got); err != api.OK || len(parts) != len(l) || !tlv.Ascending(parts) {
			t.Fatalf("Order(%q) is %q, which is not ascending (error %d)", l, got, err)
		}
	}
}

// TestAscending: P2.5, by Raw alone; equal elements are ascending.
func TestAscending(t *testing.T) {
	for _, c := range []struct {
		raw  []string
		want bool
	}{
		{nil, true},
		{[]string{"x"}, true},
		{[]string{"a", "a"}, true},
		{[]string{"a", "a", "a", "b", "b"}, true},
		{[]string{"", "a"}, true},
		{[]string{"a", ""}, false},
		{[]string{"a", "b"}, true},
		{[]string{"b", "a"}, false},
		{[]string{"a", "c", "b"}, false},
		{[]string{"b", "a", "c"}, false},
		{[]string{"a", "b", "c", "b"}, false},
		{[]string{"c", "a", "d"}, false},
		{[]string{"a", "ab"}, true},
		{[]string{"ab", "a"}, false},
		{[]string{"\x7f", "\x80"}, true},
		{[]string{"\x80", "\x7f"}, false},
	} {
		var l []api.Element
		for i, r := range c.raw {
			l = append(l, api.Element{Tag: 100 - i, Content: string([]byte{byte(100 - i)}), Raw: r})
		}
		if got := tlv.Ascending(l); got != c.want {
			t.Errorf("Ascending(%q) is %v", c.raw, got)
		}
	}
	if !tlv.Ascending([]api.Element{}) || !tlv.Ascending([]api.Element{{Tag: 2}, {Tag: 1}}) {
		t.Error("Ascending of no elements, and of elements with equal Raw, must be true")
	}
}

// TestWrapOne: P2.6, One reads what Wrap returns, and Wrap writes what One accepts.
func TestWrapOne(t *testing.T) {
	x := strings.Repeat("\x30\x80\x1f\x00", api.MaxBytes/4)
	for tag := range 256 {
		if tag%32 == 31 {
			continue
		}
		for _, n := range []int{0, 1, 2, 126, 127, 128, 129, 254, 255, 256, 257, 65534, 65535, 65536, 65537, 131071, 131072} {
			b := wrap(t, tag, x[:n/3], x[n/3:n])
			want := api.Element{Tag: tag, Content: x[:n], Raw: b}
			if e, err := tlv.One(b); e != want || err != api.OK {
				t.Errorf("One of Wrap(%d, .. %d bytes) is tag %d, %d bytes, error %d", tag, n, e.Tag, len(e.Content), err)
			}
		}
	}
	accepted := 0
	r := rand.New(rand.NewSource(6))
	for range 1000000 {
		b := make([]byte, r.Intn(9))
		for i := range b {
			b[i] = byte(r.Intn(8) * (r.Intn(16) + 1))
		}
		if e, err := tlv.One(string(b)); err == api.OK {
			accepted++
			if again, err := tlv.Wrap(e.Tag, e.Content); again != string(b) || err != api.OK || e.Raw != string(b) {
				t.Fatalf("One accepts %q, but Wrap writes %q, error %d", b, again, err)
			}
		}
	}
	if accepted < 1000 {
		t.Errorf("only %d strings were accepted", accepted)
	}
}

// TestNoBeginning: P2.6, no element is a proper beginning of another one: what One accepts it does not accept with bytes missing or added.
func TestNoBeginning(t *testing.T) {
	x := strings.Repeat("\x00", api.MaxBytes)
	for _, n := range []int{0, 1, 2, 127, 128, 255, 256, 300} {
		b := wrap(t, api.TagSequence, x[:n])
		for k := range len(b) {
			if _, err := tlv.One(b[:k]); err != api.ErrTruncated {
				t.Errorf("One of the first %d of %d bytes returns error %d", k, len(b), err)
			}
		}
	}
	for _, n := range []int{0, 1, 127, 128, 255, 256, 65535, 65536, 131072} {
		b := wrap(t, api.TagSequence, x[:n])
		for _, more := range []string{"\x00", "\x30", b} {
			if _, err := tlv.One(b + more); err != api.ErrTrailing {
				t.Errorf("One of an element of %d bytes and %d more returns error %d", len(b), len(more), err)
			}
		}
		if _, err := tlv.One(b[:len(b)-1]); err != api.ErrTruncated {
			t.Errorf("One of an element of %d bytes without its last one returns error %d", len(b), err)
		}
	}
}
