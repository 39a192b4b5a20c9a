package tlv_test

import (
	"math/rand"
	"strings"
	"testing"

	"certpath/api"
	"certpath/tlv"
)

// wrap is Wrap without errors.
func wrap(t testing.TB, tag int, contents ...string) string {
	t.Helper()
	b, err := tlv.Wrap(tag, contents...)
	if err != api.OK {
		t.Fatalf("Wrap(%d, ..) returns error %d", tag, err)
	}
	return b
}

// nest returns b within n sequences.
func nest(t testing.TB, n int, b string) string {
	t.Helper()
	for range n {
		b = wrap(t, api.TagSequence, b)
	}
	return b
}

// check is P2.3 step by step, with the parts that are still to be done on a stack.
func check(b string) api.Errno {
	type level struct {
		rest  string
		depth int
	}
	e, rest, err := read(b)
	if err != api.OK {
		return err
	}
	if rest != "" {
		return api.ErrTrailing
	}
	var stack []level
	if e.Tag/32%2 == 1 {
		stack = append(stack, level{e.Content, 1})
	}
	for len(stack) > 0 {
		top := &stack[len(stack)-1]
		if top.rest == "" {
			stack = stack[:len(stack)-1]
			continue
		}
		e, rest, err := read(top.rest)
		if err != api.OK {
			return err
		}
		if top.depth >= 16 {
			return api.ErrDepth
		}
		top.rest = rest
		if e.Tag/32%2 == 1 {
			stack = append(stack, level{e.Content, top.depth + 1})
		}
	}
	return api.OK
}

// TestCheckValid: P2.3, elements without errors in them.
func TestCheckValid(t *testing.T) {
	for _, b := range []string{
		"\x05\x00", "\x30\x00", "\x31\x00", "\xa0\x00",
		"\x30\x05\x02\x01\x05\x05\x00",
		"\xa3\x04\x30\x02\x05\x00",
		"\x20\x02\x05\x00", "\x60\x02\x05\x00", "\xe0\x02\x05\x00", "\xfe\x02\x05\x00",
	} {
		if err := tlv.Check(b); err != api.OK {
			t.Errorf("Check(%q) is %d", b, err)
		}
	}
}

// TestCheckOutside: P2.3, the errors of One come first, whatever is within.
func TestCheckOutside(t *testing.T) {
	for _, c := range []struct {
		b    string
		want api.Errno
	}{
		{"", api.ErrTruncated},
		{"\x3f\x00", api.ErrTag},
		{"\x30", api.ErrTruncated},
		{"\x30\x80\x00\x00", api.ErrLength},
		{"\x30\x81\x01\x1f", api.ErrLength},
		{"\x30\x02\x1f", api.ErrTruncated},
		{"\x30\x01\x1f\x00", api.ErrTrailing},
		{"\x05\x00\x05\x00", api.ErrTrailing},
	} {
		if err := tlv.Check(c.b); err != c.want {
			t.Errorf("Check(%q) is %d, want %d", c.b, err, c.want)
		}
	}
}

// TestCheckConstructed: P2.3, the contents are examined exactly if bit 32 of the identifier octet is 1, whatever its other bits are.
func TestCheckConstructed(t *testing.T) {
	for tag := range 256 {
		if tag%32 == 31 {
			continue
		}
		want := api.OK
		if tag/32%2 == 1 {
			want = api.ErrTag
		}
		b := wrap(t, tag, "\x1f")
		if err := tlv.Check(b); err != want {
			t.Errorf("Check(%q) is %d, want %d", b, err, want)
		}
		if err := tlv.Check(nest(t, 1, b)); err != want {
			t.Errorf("Check of a sequence of %q is %d, want %d", b, err, want)
		}
	}
}

// TestCheckPrimitive: P2.3, what is encoded in an octet string does not count, neither as an error nor as depth.
func TestCheckPrimitive(t *testing.T) {
	deep := nest(t, 40, "\x1f")
	if err := tlv.Check(wrap(t, api.TagOctets, deep)); err != api.OK {
		t.Errorf("Check of an octet string is %d", err)
	}
	if err := tlv.Check(nest(t, 16, wrap(t, api.TagOctets, deep))); err != api.ErrDepth {
		t.Errorf("Check of an octet string within 16 sequences is %d", err)
	}
	if err := tlv.Check(nest(t, 15, wrap(t, api.TagOctets, deep))); err != api.OK {
		t.Errorf("Check of an octet string within 15 sequences is %d", err)
	}
}

// TestCheckDepth: P2.3, elements within MaxDepth others, one less and one more, primitive and constructed.
func TestCheckDepth(t *testing.T) {
	for n := range 3*api.MaxDepth + 1 {
		for _, inner := range []string{"\x05\x00", "\x30\x00"} {
			want := api.OK
			if n >= api.MaxDepth {
				want = api.ErrDepth
			}
			if err := tlv.Check(nest(t, n, inner)); err != want {
				t.Errorf("Check of %q within %d others is %d, want %d", inner, n, err, want)
			}
		}
	}
}

// TestCheckDepthBeside: P2.3, elements beside one another are no deeper, however many there are.
func TestCheckDepthBeside(t *testing.T) {
	flat := wrap(t, api.TagSequence, strings.Repeat("\x30\x02\x30\x00", 1000))
	if err := tlv.Check(flat); err != api.OK {
		t.Errorf("Check of many elements beside one another is %d", err)
	}
	tree := "\x05\x00"
	for range 12 {
		tree = wrap(t, api.TagSequence, tree, tree)
	}
	if err := tlv.Check(nest(t, 3, tree)); err != api.OK {
		t.Errorf("Check of a tree of depth 15 is %d", err)
	}
	if err := tlv.Check(nest(t, 4, tree)); err != api.ErrDepth {
		t.Errorf("Check of a tree of depth 16 is %d", err)
	}
}

// TestCheckOrder: P2.3, each element is checked before the next one is read, the error of Read for an element comes before its depth, and its depth before what is in it.
func TestCheckOrder(t *testing.T) {
	deep := nest(t, 16, "\x05\x00")
	for _, c := range []struct {
		name, b string
		want    api.Errno
	}{
		{"depth within the first one, then a bad tag", wrap(t, api.TagSequence, deep, "\x1f"), api.ErrDepth},
		{"a bad tag, then depth", wrap(t, api.TagSequence, "\x1f\x00", deep), api.ErrTag},
		{"a bad tag within the first one, then a bad length", wrap(t, api.TagSequence, "\x30\x01\x1f", "\x04\x80"), api.ErrTag},
		{"a bad length within the first one, then a bad tag", wrap(t, api.TagSequence, "\x30\x02\x04\x80", "\x1f"), api.ErrLength},
		{"a valid one, then a bad tag within the second one", wrap(t, api.TagSequence, "\x30\x00", "\x30\x01\x1f"), api.ErrTag},
		{"a valid one, then missing bytes", wrap(t, api.TagSequence, "\x30\x00", "\x05"), api.ErrTruncated},
		{"bad tag within 16 others", nest(t, 16, "\x1f"), api.ErrTag},
		{"bad length within 16 others", nest(t, 16, "\x04\x81\x00"), api.ErrLength},
		{"missing bytes within 16 others", nest(t, 16, "\x04\x01"), api.ErrTruncated},
		{"nothing within 16 others", nest(t, 16, ""), api.OK},
		{"a valid one within 16 others, then a bad tag", nest(t, 16, "\x05\x00\x1f"), api.ErrDepth},
		{"a bad tag within 17 others", nest(t, 17, "\x1f"), api.ErrDepth},
		{"a bad tag within an octet string within 16 others", nest(t, 16, "\x04\x01\x1f"), api.ErrDepth},
		{"contents that end within an element", "\x30\x03\x04\x02a", api.ErrTruncated},
		{"an element that reaches beyond the one around it", "\x30\x06\x30\x02\x04\x01\x05\x00", api.ErrTruncated},
	} {
		if err := tlv.Check(c.b); err != c.want {
			t.Errorf("%s: Check is %d, want %d", c.name, err, c.want)
		}
	}
}

// TestCheckRandom: P2.3, P2.1 and P2.2 for nested elements some bytes of which are changed, against the models.
func TestCheckRandom(t *testing.T) {
	r := rand.New(rand.NewSource(2))
	seen := map[api.Errno]int{}
	for range 200000 {
		b := []byte(randomElement(t, r, r.Intn(20)))
		for range r.Intn(3) {
			b[r.Intn(len(b))] = byte(r.Intn(256))
		}
		if r.Intn(4) == 0 {
			b = b[:r.Intn(len(b)+1)]
		}
		s := string(b)
		want := check(s)
		seen[want]++
		if err := tlv.Check(s); err != want {
			t.Fatalf("Check(%q) is %d, want %d", s, err, want)
		}
		sameRead(t, s)
	}
	for _, err := range []api.Errno{api.OK, api.ErrTruncated, api.ErrTag, api.ErrLength, api.ErrTrailing, api.ErrDepth} {
		if seen[err] < 100 {
			t.Errorf("only %d strings with error %d", seen[err], err)
		}
	}
}

// randomElement returns an element with elements within it, at most depth of them within one another.
func randomElement(t *testing.T, r *rand.Rand, depth int) string {
	if depth == 0 {
		return wrap(t, r.Intn(31), strings.Repeat("\x30", r.Intn(200)))
	}
	parts := []string{randomElement(t, r, depth-1)}
	if r.Intn(3) == 0 {
		parts = append(parts, "\x05\x00")
	}
	if r.Intn(3) == 0 {
		parts = append([]string{"\x30\x02\x31\x00"}, parts...)
	}
	return wrap(t, 32+r.Intn(31), parts...)
}
