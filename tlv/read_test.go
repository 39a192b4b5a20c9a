package tlv_test

import (
	"math/big"
	"slices"
	"strings"
	"testing"

	"certpath/api"
	"certpath/tlv"
)

// read is P2.1 step by step, with the octets of a length as one great number.
func read(b string) (api.Element, string, api.Errno) {
	none := api.Element{}
	if len(b) == 0 {
		return none, "", api.ErrTruncated
	}
	if b[0]%32 == 31 {
		return none, "", api.ErrTag
	}
	if len(b) == 1 {
		return none, "", api.ErrTruncated
	}
	if b[1] == 128 || b[1] > 131 {
		return none, "", api.ErrLength
	}
	header, length := 2, int(b[1])
	if b[1] > 128 {
		header = 2 + int(b[1]) - 128
		if len(b) < header {
			return none, "", api.ErrTruncated
		}
		n := new(big.Int).SetBytes([]byte(b[2:header]))
		least := (n.BitLen() + 7) / 8
		if n.Cmp(big.NewInt(128)) < 0 || least < header-2 || n.Cmp(big.NewInt(api.MaxBytes)) > 0 {
			return none, "", api.ErrLength
		}
		length = int(n.Int64())
	}
	if len(b) < header+length {
		return none, "", api.ErrTruncated
	}
	return api.Element{Tag: int(b[0]), Content: b[header : header+length], Raw: b[:header+length]}, b[header+length:], api.OK
}

// sameRead compares Read with its model.
func sameRead(t *testing.T, b string) {
	t.Helper()
	e, rest, err := tlv.Read(b)
	we, wrest, werr := read(b)
	if e != we || rest != wrest || err != werr {
		t.Errorf("Read of %d bytes % .8x..: got %d, %d contents octets, %d bytes behind it, error %d; want %d, %d, %d, error %d",
			len(b), b, e.Tag, len(e.Content), len(rest), err, we.Tag, len(we.Content), len(wrest), werr)
	}
}

// TestReadExamples: P2.1, an element and its parts, alone and before others.
func TestReadExamples(t *testing.T) {
	long := strings.Repeat("x", 300)
	for _, c := range []struct {
		b, content, rest string
		tag              int
	}{
		{"\x04\x02ab", "ab", "", api.TagOctets},
		{"\x04\x02abc", "ab", "c", api.TagOctets},
		{"\x05\x00", "", "", api.TagNull},
		{"\x05\x00\x00", "", "\x00", api.TagNull},
		{"\x00\x00", "", "", 0},
		{"\x30\x03\x02\x01\x05\x1f", "\x02\x01\x05", "\x1f", api.TagSequence},
		{"\xfe\x01\x1f", "\x1f", "", 0xfe},
		{"\x04\x81\x80" + long, long[:128], long[128:], api.TagOctets},
		{"\x04\x82\x01\x2c" + long, long, "", api.TagOctets},
		{"\x04\x82\x01\x2b" + long, long[1:], "x", api.TagOctets},
	} {
		e, rest, err := tlv.Read(c.b)
		want := api.Element{Tag: c.tag, Content: c.content, Raw: c.b[:len(c.b)-len(c.rest)]}
		if e != want || rest != c.rest || err != api.OK {
			t.Errorf("Read(%q) is %#v, %q, %d, want %#v, %q", c.b, e, rest, err, want, c.rest)
		}
	}
}

// TestReadErrors: P2.1, each error, also where several apply: the first one is returned, and nothing else.
func TestReadErrors(t *testing.T) {
	full := strings.Repeat("x", 1<<18)
	for _, c := range []struct {
		b    string
		want api.Errno
	}{
		{"", api.ErrTruncated},
		{"\x1f", api.ErrTag},
		{"\x3f", api.ErrTag},
		{"\x5f\x80", api.ErrTag},
		{"\x7f\x00", api.ErrTag},
		{"\x9f\x05", api.ErrTag},
		{"\xbf\x81\x01", api.ErrTag},
		{"\xdf\x01a", api.ErrTag},
		{"\xff\xff", api.ErrTag},
		{"\x04", api.ErrTruncated},
		{"\x04\x80", api.ErrLength},
		{"\x30\x80\x00\x00", api.ErrLength},
		{"\x04\x84", api.ErrLength},
		{"\x04\x84\x00\x00\x00\x80" + full, api.ErrLength},
		{"\x04\x85\x00\x00\x00\x00\x80" + full, api.ErrLength},
		{"\x04\xff" + full, api.ErrLength},
		{"\x04\x81", api.ErrTruncated},
		{"\x04\x82", api.ErrTruncated},
		{"\x04\x82\x00", api.ErrTruncated},
		{"\x04\x82\xff", api.ErrTruncated},
		{"\x04\x83\x00\x00", api.ErrTruncated},
		{"\x04\x83\xff\xff", api.ErrTruncated},
		{"\x04\x81\x02ab", api.ErrLength},
		{"\x04\x81\x00", api.ErrLength},
		{"\x04\x81\x7f", api.ErrLength},
		{"\x04\x81\x7f" + full, api.ErrLength},
		{"\x04\x82\x00\x80" + full, api.ErrLength},
		{"\x04\x82\x00\xff", api.ErrLength},
		{"\x04\x83\x00\x00\x80" + full, api.ErrLength},
		{"\x04\x83\x00\xff\xff" + full, api.ErrLength},
		{"\x04\x83\x02\x00\x01" + full, api.ErrLength},
		{"\x04\x83\x02\x00\x01", api.ErrLength},
		{"\x04\x83\xff\xff\xff", api.ErrLength},
		{"\x04\x01", api.ErrTruncated},
		{"\x04\x02a", api.ErrTruncated},
		{"\x04\x7f" + full[:126], api.ErrTruncated},
		{"\x04\x81\x80", api.ErrTruncated},
		{"\x04\x81\x80" + full[:127], api.ErrTruncated},
		{"\x04\x82\x01\x00" + full[:255], api.ErrTruncated},
		{"\x04\x83\x01\x00\x00" + full[:65535], api.ErrTruncated},
		{"\x04\x83\x02\x00\x00" + full[:131071], api.ErrTruncated},
	} {
		e, rest, err := tlv.Read(c.b)
		if e != (api.Element{}) || rest != "" || err != c.want {
			t.Errorf("Read of %d bytes % .8x..: tag %d, %d bytes behind it, error %d, want error %d alone", len(c.b), c.b, e.Tag, len(rest), err, c.want)
		}
	}
}

// TestReadShort: P2.1 for every string of up to two bytes, and every second octet before few and many bytes.
func TestReadShort(t *testing.T) {
	sameRead(t, "")
	many := strings.Repeat("\x00\x01\x02\x7f\x80\xff", 50)
	for i := range 256 {
		sameRead(t, string([]byte{byte(i)}))
		for j := range 256 {
			head := string([]byte{byte(i), byte(j)})
			sameRead(t, head)
			sameRead(t, head+"\x00")
			sameRead(t, head+many)
		}
	}
}

// TestReadLengths: P2.1, lengths that one or two further octets can say, minimal or not, with contents that are missing by one, present, or followed by one byte.
func TestReadLengths(t *testing.T) {
	full := strings.Repeat("y", 1<<16)
	about := func(header string, n int) {
		b := header + full
		for k := max(len(header)+n-1, len(header)); k <= min(len(header)+n+1, len(b)); k++ {
			sameRead(t, b[:k])
		}
	}
	for n := range 256 {
		about("\x04\x81"+string([]byte{byte(n)}), n)
	}
	for n := range 1 << 16 {
		if n <= 300 || n%251 == 0 || n >= 1<<16-5 {
			about("\x04\x82"+string([]byte{byte(n >> 8), byte(n)}), n)
		}
	}
}

// TestReadLongLengths: P2.1, lengths of three further octets about the ends of their range, and of the limit.
func TestReadLongLengths(t *testing.T) {
	full := strings.Repeat("z", 1<<18)
	for _, n := range []int{0, 1, 127, 128, 255, 256, 257, 1<<16 - 2, 1<<16 - 1, 1 << 16, 1<<16 + 1, 1<<17 - 1, 1 << 17, 1<<17 + 1, 1<<17 + 255, 1<<18 - 1, 1 << 18, 1<<24 - 1} {
		b := "\x04\x83" + string([]byte{byte(n >> 16), byte(n >> 8), byte(n)}) + full
		sameRead(t, b)
		sameRead(t, b[:5])
		for k := 4 + n; k <= 6+n && k <= len(b); k++ {
			sameRead(t, b[:k])
		}
	}
}

// TestOne: P2.2, the element that is all of b; the errors of Read come before ErrTrailing.
func TestOne(t *testing.T) {
	e, err := tlv.One("\x30\x02\x05\x00")
	if err != api.OK || e != (api.Element{Tag: api.TagSequence, Content: "\x05\x00", Raw: "\x30\x02\x05\x00"}) {
		t.Errorf("One of a sequence is %#v, %d", e, err)
	}
	for _, c := range []struct {
		b    string
		want api.Errno
	}{
		{"", api.ErrTruncated},
		{"\x1f\x00\x00", api.ErrTag},
		{"\x04\x81\x01aa", api.ErrLength},
		{"\x04\x05aa", api.ErrTruncated},
		{"\x05\x00\x00", api.ErrTrailing},
		{"\x05\x00\x05\x00", api.ErrTrailing},
		{"\x04\x01aa", api.ErrTrailing},
		{"\x05\x00\x1f", api.ErrTrailing},
	} {
		if e, err := tlv.One(c.b); e != (api.Element{}) || err != c.want {
			t.Errorf("One(%q) is %#v, %d, want error %d alone", c.b, e, err, c.want)
		}
	}
}

// TestList: P2.2, contents of no, one and several elements, in their order.
func TestList(t *testing.T) {
	if l, err := tlv.List(""); len(l) != 0 || err != api.OK {
		t.Errorf("List of nothing is %#v, %d", l, err)
	}
	parts := []string{"\x05\x00", "\x02\x01\x07", "\x05\x00", "\x30\x03\x02\x01\x01", "\x04\x81\x80" + strings.Repeat("\x1f", 128), "\x01\x01\x00"}
	var want []api.Element
	for n, p := range parts {
		e, _, _ := read(p)
		want = append(want, e)
		if l, err := tlv.List(strings.Join(parts[:n+1], "")); err != api.OK || !slices.Equal(l, want) {
			t.Errorf("List of %d elements is %#v, %d, want %#v", n+1, l, err, want)
		}
	}
	const many = 100000
	if l, err := tlv.List(strings.Repeat("\x02\x01\x05", many)); err != api.OK || len(l) != many || l[many-1].Content != "\x05" {
		t.Errorf("List of %d elements has %d, error %d", many, len(l), err)
	}
}

// TestListErrors: P2.2, the first error of Read, and no elements beside it.
func TestListErrors(t *testing.T) {
	for _, c := range []struct {
		contents string
		want     api.Errno
	}{
		{"\x00", api.ErrTruncated},
		{"\x1f", api.ErrTag},
		{"\x05\x00\x1f", api.ErrTag},
		{"\x05\x00\x05", api.ErrTruncated},
		{"\x05\x00\x05\x80\x1f", api.ErrLength},
		{"\x1f\x00\x05\x80", api.ErrTag},
		{"\x05\x00\x05\x00\x04\x02a", api.ErrTruncated},
		{"\x04\x01ab", api.ErrTruncated},
	} {
		if l, err := tlv.List(c.contents); len(l) != 0 || err != c.want {
			t.Errorf("List(%q) is %#v, %d, want error %d alone", c.contents, l, err, c.want)
		}
	}
}

// TestListDoesNotDescend: P2.2, List divides one level alone: errors within an element are none of its own.
func TestListDoesNotDescend(t *testing.T) {
	l, err := tlv.List("\x30\x01\x1f\x05\x00")
	if err != api.OK || len(l) != 2 || l[0].Content != "\x1f" {
		t.Errorf("List is %#v, %d", l, err)
	}
}

// TestListNewMemory: R3, two results share no memory.
func TestListNewMemory(t *testing.T) {
	const contents = "\x05\x00\x05\x00"
	first, _ := tlv.List(contents)
	first[0].Tag = 1
	if second, _ := tlv.List(contents); second[0].Tag != api.TagNull {
		t.Error("a change of one result of List is seen in another one")
	}
}
