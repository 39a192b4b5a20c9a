package keyinfo_test

import (
	"math/rand"
	"strings"
	"testing"

	"certpath/api"
	"certpath/keyinfo"
	"certpath/prim"
	"certpath/tlv"
)

// modelDecode is P14.2, with rule R9: require leaves it with the first error.
func modelDecode(b string) (k api.Key, err api.Errno) {
	require := func(err api.Errno, holds bool) {
		if !holds {
			panic(err)
		}
	}
	defer func() {
		if failed, ok := recover().(api.Errno); ok {
			k, err = api.Key{}, failed
		}
	}()
	e, err := tlv.One(b)
	require(err, err == api.OK)
	require(api.ErrTag, e.Tag == 0x30)
	l, err := tlv.List(e.Content)
	require(err, err == api.OK)
	require(api.ErrTruncated, len(l) > 0)
	err = modelAlgorithm(l[0])
	require(err, err == api.OK)
	require(api.ErrTruncated, len(l) > 1)
	require(api.ErrTag, l[1].Tag == 3)
	bytes, unused, err := prim.Bits(l[1].Content)
	require(err, err == api.OK)
	require(api.ErrKey, unused == 0)
	require(api.ErrKey, len(bytes) == bitsSize)
	k = api.Key{Height: int(bytes[0]), ID: bytes[1:17], Root: bytes[17:]}
	require(api.ErrKey, valid(k))
	require(api.ErrTrailing, len(l) == 2)
	return k, api.OK
}

// checkDecode compares Decode with P14.2, and what it accepts with what Encode writes, and returns its error.
func checkDecode(t *testing.T, b string) api.Errno {
	t.Helper()
	want, wantErr := modelDecode(b)
	k, err := keyinfo.Decode(b)
	if k != want || err != wantErr {
		t.Errorf("Decode(%.100x) is %x, %d, want %x, %d", b, k, err, want, wantErr)
	}
	if err == api.OK && encode(t, k) != b {
		t.Errorf("Decode accepts %x, but Encode writes %x", b, encode(t, k))
	}
	return err
}

// plain is the key of the tests of errors.
func plain() api.Key {
	return api.Key{Height: 3, ID: count(0x40, 16), Root: count(0xc0, 16)}
}

// TestDecodeErrors: P14.2, each error in each place, and which one comes first if there are several.
func TestDecodeErrors(t *testing.T) {
	alg, raw := algorithm(), keyBits(plain())
	good := bits(raw, 0)
	high := bits("\x09"+raw[1:], 0)
	unused := bits(raw[:32]+"\x80", 7)
	null, long := "\x05\x00", "\x1f\x00"
	other := seq(idOf("1.3.6.1.4.1.58888.1.2"))
	for _, c := range []struct {
		what, b string
		want    api.Errno
	}{
		{"nothing", "", api.ErrTruncated},
		{"no length", "\x30", api.ErrTruncated},
		{"a long tag", "\x3f" + seq(alg, good)[1:], api.ErrTag},
		{"an indefinite length", "\x30\x80" + alg + good + "\x00\x00", api.ErrLength},
		{"a length that is not minimal", "\x30\x81\x32" + alg + good, api.ErrLength},
		{"a byte behind it", seq(alg, good) + "\x00", api.ErrTrailing},
		{"a key behind it", seq(alg, good) + seq(alg, good), api.ErrTrailing},
		{"the parts alone", alg + good, api.ErrTrailing},
		{"a set, and a byte behind it", der(api.TagSet, alg, good) + "\x00", api.ErrTrailing},
		{"an empty sequence, and a byte behind it", seq() + "\x00", api.ErrTrailing},
		{"a byte is missing", seq(alg, good)[:51], api.ErrTruncated},
		{"a set of which a byte is missing", der(api.TagSet, alg, good)[:51], api.ErrTruncated},

		{"a set", der(api.TagSet, alg, good), api.ErrTag},
		{"an octet string", der(api.TagOctets, alg, good), api.ErrTag},
		{"a bit string", good, api.ErrTag},
		{"a context tag", der(api.TagExplicit, alg, good), api.ErrTag},
		{"a set that cannot be divided", der(api.TagSet, alg, "\x03"), api.ErrTag},
		{"an empty set", der(api.TagSet), api.ErrTag},
		{"a set of a bad algorithm and a bad bit string", der(api.TagSet, other, high), api.ErrTag},

		{"the bit string is cut off", seq(alg, good[:len(good)-1]), api.ErrTruncated},
		{"the algorithm is cut off", seq(alg[:13]), api.ErrTruncated},
		{"the bit string has a bad length", seq(alg, "\x03\x81\x22"+good[2:]), api.ErrLength},
		{"the bit string has a long tag", seq(alg, long), api.ErrTag},
		{"a bad algorithm, and the bit string is cut off", seq(other, "\x03\x22\x00"), api.ErrTruncated},
		{"no algorithm, and the bit string has a bad length", seq(null, "\x03\x80"), api.ErrLength},
		{"a bad height, and the third element is cut off", seq(alg, high, "\x05"), api.ErrTruncated},
		{"no bit string, and the third element has a bad length", seq(alg, null, "\x05\x80"), api.ErrLength},
		{"a bad algorithm, and the third element has a long tag", seq(other, good, long), api.ErrTag},

		{"an empty sequence", seq(), api.ErrTruncated},
		{"the algorithm alone", seq(alg), api.ErrTruncated},
		{"another algorithm alone", seq(other), api.ErrAlgorithm},
		{"the bit string alone", seq(good), api.ErrTag},
		{"a bit string that is no key, alone", seq(high), api.ErrTag},
		{"a null alone", seq(null), api.ErrTag},
		{"an empty algorithm alone", seq(seq()), api.ErrTruncated},
		{"the parts exchanged", seq(good, alg), api.ErrTag},
		{"the parts in a sequence within", seq(seq(alg, good)), api.ErrTag},
		{"the object identifier without its sequence", seq(alg[2:], good), api.ErrTag},

		{"the algorithm twice", seq(alg, alg), api.ErrTag},
		{"the algorithm twice, and the bit string", seq(alg, alg, good), api.ErrTag},
		{"an octet string instead of the bit string", seq(alg, der(api.TagOctets, raw)), api.ErrTag},
		{"an octet string with the contents of the bit string", seq(alg, der(api.TagOctets, good[2:])), api.ErrTag},
		{"an empty octet string instead of the bit string", seq(alg, der(api.TagOctets)), api.ErrTag},
		{"a constructed bit string", seq(alg, der(0x23, good)), api.ErrTag},
		{"a context tag instead of the bit string", seq(alg, der(api.TagContext, good[2:])), api.ErrTag},
		{"a null between the parts", seq(alg, null, good), api.ErrTag},

		{"an empty bit string", seq(alg, der(api.TagBits)), api.ErrValue},
		{"8 unused bits", seq(alg, der(api.TagBits, "\x08", raw)), api.ErrValue},
		{"255 unused bits", seq(alg, der(api.TagBits, "\xff", raw)), api.ErrValue},
		{"an unused bit of no byte", seq(alg, der(api.TagBits, "\x01")), api.ErrValue},
		{"an unused bit that is not 0", seq(alg, der(api.TagBits, "\x01", raw[:32], "\x01")), api.ErrValue},
		{"7 unused bits that are not 0, and too few bytes", seq(alg, der(api.TagBits, "\x07", raw[:31], "\x01")), api.ErrValue},
		{"an unused bit that is not 0, and a bad height", seq(alg, der(api.TagBits, "\x01\x09", raw[1:32], "\x01")), api.ErrValue},
		{"an unused bit that is not 0, and more behind it", seq(alg, der(api.TagBits, "\x01", raw[:32], "\x01"), null), api.ErrValue},
		{"an empty bit string, and more behind it", seq(alg, der(api.TagBits), null), api.ErrValue},

		{"7 unused bits", seq(alg, unused), api.ErrKey},
		{"1 unused bit", seq(alg, bits(raw[:32]+"\xfe", 1)), api.ErrKey},
		{"1 unused bit, and another byte", seq(alg, bits(raw+"\x00", 1)), api.ErrKey},
		{"no byte", seq(alg, bits("", 0)), api.ErrKey},
		{"the height alone", seq(alg, bits(raw[:1], 0)), api.ErrKey},
		{"no Root", seq(alg, bits(raw[:17], 0)), api.ErrKey},
		{"no height", seq(alg, bits("\x00"+raw[2:], 0)), api.ErrKey},
		{"a byte is missing", seq(alg, bits(raw[:32], 0)), api.ErrKey},
		{"a byte too many", seq(alg, bits(raw+"\x00", 0)), api.ErrKey},
		{"the key twice", seq(alg, bits(raw+raw, 0)), api.ErrKey},
		{"very many bytes", seq(alg, bits(strings.Repeat("\x03", 100000), 0)), api.ErrKey},
		{"the height MaxHeight + 1", seq(alg, high), api.ErrKey},
		{"the height 128", seq(alg, bits("\x80"+raw[1:], 0)), api.ErrKey},
		{"the height 255", seq(alg, bits("\xff"+raw[1:], 0)), api.ErrKey},
		{"unused bits, a bad height, and a byte too many", seq(alg, bits("\x09"+raw[1:]+"\x00", 1)), api.ErrKey},
		{"a bad height, and more behind it", seq(alg, high, null), api.ErrKey},
		{"unused bits, and more behind it", seq(alg, unused, null), api.ErrKey},
		{"a byte too many, and more behind it", seq(alg, bits(raw+"\x00", 0), good), api.ErrKey},
		{"no byte, and a bit string behind it", seq(alg, bits("", 0), good), api.ErrKey},

		{"a null behind the bit string", seq(alg, good, null), api.ErrTrailing},
		{"the bit string twice", seq(alg, good, good), api.ErrTrailing},
		{"the algorithm behind the bit string", seq(alg, good, alg), api.ErrTrailing},
		{"a bad bit string behind it", seq(alg, good, high), api.ErrTrailing},
		{"a sequence behind it that cannot be divided", seq(alg, good, seq("\x30")), api.ErrTrailing},
		{"many elements behind it", seq(alg, good, strings.Repeat(null, 60000)), api.ErrTrailing},
	} {
		if k, err := keyinfo.Decode(c.b); err != c.want || k != (api.Key{}) {
			t.Errorf("%s: Decode(%.100x) is %x, %d, want error %d", c.what, c.b, k, err, c.want)
		}
		checkDecode(t, c.b)
	}
}

// TestDecodeAlgorithms: P14.2, each error of CheckAlgorithm, with a good bit string, none, a bad one, and more behind it, all of which come later.
func TestDecodeAlgorithms(t *testing.T) {
	good := bits(keyBits(plain()), 0)
	for _, c := range badElements() {
		if len(c.b) > 1000 {
			continue
		}
		for _, rest := range []string{good, "", "\x05\x00", der(api.TagBits), bits("", 0), good + "\x05\x00", "\x05\x00" + good} {
			if k, err := keyinfo.Decode(seq(c.b, rest)); err != c.want || k != (api.Key{}) {
				t.Errorf("%s: Decode(%x) is %x, %d, want error %d", c.what, seq(c.b, rest), k, err, c.want)
			}
			checkDecode(t, seq(c.b, rest))
			checkDecode(t, der(api.TagSet, c.b, rest))
			checkDecode(t, seq(c.b, rest)+"\x00")
		}
	}
}

// TestDecodeTags: P14.2, every identifier octet in every place.
func TestDecodeTags(t *testing.T) {
	b := modelEncode(plain())
	for at, want := range map[int]int{0: api.TagSequence, 2: api.TagSequence, 4: api.TagOID, 16: api.TagBits} {
		if int(b[at]) != want {
			t.Fatalf("the byte %d of %x is no identifier octet", at, b)
		}
		for tag := range 256 {
			err := checkDecode(t, replace(b, at, byte(tag)))
			if (err == api.OK) != (tag == want) || err != api.OK && err != api.ErrTag {
				t.Errorf("the identifier octet %#x at %d has the error %d", tag, at, err)
			}
		}
	}
}

// TestDecodeHeights: P14.2, every byte as height.
func TestDecodeHeights(t *testing.T) {
	for height := range 256 {
		want := plain()
		want.Height = height
		k, err := keyinfo.Decode(modelEncode(want))
		if height > maxHeight {
			if k != (api.Key{}) || err != api.ErrKey {
				t.Errorf("height %d: Decode returns %x, %d, want ErrKey", height, k, err)
			}
		} else if k != want || err != api.OK {
			t.Errorf("height %d: Decode returns %x, %d, want %x", height, k, err, want)
		}
	}
}

// TestDecodeSizes: P14.2, bit strings of every number of bytes and of unused bits.
func TestDecodeSizes(t *testing.T) {
	for n := range 300 {
		for unused := range 9 {
			b := seq(algorithm(), der(api.TagBits, string([]byte{byte(unused)}), fill(0, n)))
			want := api.ErrKey
			switch {
			case unused == 8 || unused > 0 && n == 0:
				want = api.ErrValue
			case unused == 0 && n == bitsSize:
				want = api.OK
			}
			if err := checkDecode(t, b); err != want {
				t.Errorf("%d bytes with %d unused bits: Decode returns %d, want %d", n, unused, err, want)
			}
		}
	}
}

// TestDecodeCutOff: P14.2, every encoding cut off anywhere, and followed by something.
func TestDecodeCutOff(t *testing.T) {
	for _, k := range keys(t) {
		b := encode(t, k)
		for i := range len(b) {
			if k, err := keyinfo.Decode(b[:i]); err != api.ErrTruncated || k != (api.Key{}) {
				t.Errorf("Decode(%x) is %x, %d, want ErrTruncated", b[:i], k, err)
			}
		}
		for _, s := range []string{"\x00", "\x30", b, "\x05\x00", "\x1f", strings.Repeat("a", 1000)} {
			if k, err := keyinfo.Decode(b + s); err != api.ErrTrailing || k != (api.Key{}) {
				t.Errorf("Decode(%x) is %x, %d, want ErrTrailing", b+s, k, err)
			}
		}
	}
}

// TestDecodeChanged: P14.2, every byte of an encoding is another one, is missing, or is added; what Decode accepts is the encoding of the key that it returns, and the bytes of ID and Root alone can be any.
func TestDecodeChanged(t *testing.T) {
	seen := map[api.Errno]int{}
	for _, k := range []api.Key{plain(), {Height: 0, ID: fill(0, 16), Root: fill(0, 16)}, {Height: 8, ID: fill(0xff, 16), Root: fill(0xff, 16)}} {
		b := encode(t, k)
		for i := range len(b) + 1 {
			for c := range 256 {
				s := string([]byte{byte(c)})
				seen[checkDecode(t, b[:i]+s+b[i:])]++
				if i == len(b) {
					continue
				}
				err := checkDecode(t, b[:i]+s+b[i+1:])
				if want := b[i] == byte(c) || i > 19 || i == 19 && c <= maxHeight; (err == api.OK) != want {
					t.Errorf("the byte %d is %#x: Decode returns %d", i, c, err)
				}
				seen[err]++
			}
			if i < len(b) {
				seen[checkDecode(t, b[:i]+b[i+1:])]++
			}
		}
	}
	seenEnough(t, seen, api.OK, api.ErrTruncated, api.ErrTrailing, api.ErrTag, api.ErrLength, api.ErrOID, api.ErrValue, api.ErrAlgorithm, api.ErrKey)
}

// TestDecodeTwoChanged: P14.2, any two bytes of an encoding are others.
func TestDecodeTwoChanged(t *testing.T) {
	b := encode(t, plain())
	changes := []byte{0x01, 0x02, 0x08, 0x20, 0x80, 0xff}
	for i := range 21 {
		for j := i + 1; j < len(b); j++ {
			for _, x := range changes {
				for _, y := range changes {
					checkDecode(t, replace(replace(b, i, b[i]^x), j, b[j]^y))
				}
			}
		}
	}
}

// TestDecodeInner: P14.2, the parts inside are longer or shorter, with lengths that fit.
func TestDecodeInner(t *testing.T) {
	raw := keyBits(plain())
	id := idOf(api.OIDAlgorithm)
	for _, ending := range []string{"", "\x00", "\x05\x00", id, "\x30\x00", "\x03\x01\x00"} {
		for n := range len(raw) + 1 {
			for m := range len(id) - 1 {
				checkDecode(t, seq(seq(der(api.TagOID, id[2:2+m]), ending), bits(raw[:n], 0)))
			}
			checkDecode(t, seq(algorithm(), bits(raw[:n]+ending, 0)))
			checkDecode(t, seq(algorithm(), bits(raw[n:]+ending, 0), ending))
			checkDecode(t, seq(seq(id+ending), bits(raw, 0)+ending))
		}
	}
}

// randomEncoding returns an encoding of the form of a key, parts of which are missing, are there twice, or are others.
func randomEncoding(r *rand.Rand) string {
	pick := func(usual string, others ...string) string {
		if r.Intn(8) > 0 {
			return usual
		}
		return others[r.Intn(len(others))]
	}
	raw := string([]byte{byte(r.Intn(9))}) + sample(r.Int63(), 32)
	raw = pick(raw, raw[1:], raw+"\x00", "\x09"+raw[1:], "", raw[:32]+"\x00")
	second := pick(der(api.TagBits, pick("\x00", "\x01", "\x07", "\x08", ""), raw), "", "\x03", "\x04\x00", der(0x23, bits("", 0)), bits(raw, 0)+bits(raw, 0))
	third := pick("", "\x05\x00", algorithm(), "\x05", "\x1f", "\x05\x80", seq())
	b := pick(seq(randomAlgorithm(r), second, third), der(api.TagSet, second, third), seq(second, algorithm()), seq(algorithm(), second), seq())
	return pick(b, b, b+"\x00", b[:len(b)-1])
}

// TestDecodeRandom: P14.2, random encodings of the form of keys, some of whose bytes are changed.
func TestDecodeRandom(t *testing.T) {
	r := rand.New(rand.NewSource(5))
	seen := map[api.Errno]int{}
	for range 20000 {
		b := randomEncoding(r)
		seen[checkDecode(t, b)]++
		changed := []byte(b)
		for range r.Intn(3) {
			changed[r.Intn(len(changed))] = byte(r.Intn(256))
		}
		seen[checkDecode(t, string(changed))]++
	}
	seenEnough(t, seen, api.OK, api.ErrTruncated, api.ErrTrailing, api.ErrTag, api.ErrLength, api.ErrOID, api.ErrValue, api.ErrAlgorithm, api.ErrKey)
}

// TestDecodeAny: P14.2 and R1, bytes of no form.
func TestDecodeAny(t *testing.T) {
	for a := range 256 {
		checkDecode(t, string([]byte{byte(a)}))
		for b := range 256 {
			checkDecode(t, string([]byte{byte(a), byte(b)}))
			checkDecode(t, string([]byte{0x30, 2, byte(a), byte(b)}))
		}
	}
	for number := range 2000 {
		checkDecode(t, sample(int64(number), number%70))
		checkDecode(t, seq(sample(int64(number), number%70)))
	}
	for _, tag := range []int{api.TagSequence, api.TagBits} {
		for _, contents := range []string{strings.Repeat("\x30\x80", 50000), strings.Repeat("\x05\x00", 1<<16), fill(0, api.MaxBytes), fill(0x30, api.MaxBytes)} {
			checkDecode(t, der(tag, contents))
		}
	}
}
