package subtree_test

import (
	"math/rand"
	"strings"
	"testing"

	"certpath/api"
	"certpath/gname"
	"certpath/subtree"
	"certpath/tlv"
)

// failure is what the model decoder panics with.
type failure struct{ err api.Errno }

// ensure fails with an error unless a condition holds.
func ensure(ok bool, err api.Errno) {
	if !ok {
		panic(failure{err})
	}
}

// divided returns the elements of contents.
func divided(contents string) []api.Element {
	l, err := tlv.List(contents)
	ensure(err == api.OK, err)
	return l
}

// modelPart returns the subtrees of the contents of a part, by P10.2 and R9.
func modelPart(contents string) []api.GeneralName {
	elements := divided(contents)
	ensure(len(elements) > 0, api.ErrValue)
	var l []api.GeneralName
	for _, e := range elements {
		ensure(e.Tag == 0x30, api.ErrTag)
		inner := divided(e.Content)
		ensure(len(inner) > 0, api.ErrTruncated)
		g, err := gname.Decode(inner[0], true)
		ensure(err == api.OK, err)
		ensure(len(inner) == 1, api.ErrTrailing)
		l = append(l, g)
	}
	return l
}

// modelDecode is P10.2 for Decode.
func modelDecode(b string) (s api.Subtrees, err api.Errno) {
	defer func() {
		if f, ok := recover().(failure); ok {
			s, err = api.Subtrees{}, f.err
		}
	}()
	whole, err := tlv.One(b)
	ensure(err == api.OK, err)
	ensure(whole.Tag == 0x30, api.ErrTag)
	rest := divided(whole.Content)
	if len(rest) > 0 && rest[0].Tag == 0xa0 {
		s.Permitted = modelPart(rest[0].Content)
		rest = rest[1:]
	}
	if len(rest) > 0 && rest[0].Tag == 0xa1 {
		s.Excluded = modelPart(rest[0].Content)
		rest = rest[1:]
	}
	ensure(len(rest) == 0, api.ErrTrailing)
	err = modelCheck(s)
	ensure(err == api.OK, err)
	return s, api.OK
}

// checkDecode compares Decode with P10.2, and Encode of what it returns with b, and returns the error of Decode.
func checkDecode(t *testing.T, b string) api.Errno {
	t.Helper()
	want, wantErr := modelDecode(b)
	s, err := subtree.Decode(b)
	if !identicalTrees(s, want) || err != wantErr {
		t.Fatalf("Decode(%.200x) is %s, %d, want %s, %d", b, showTrees(s), err, showTrees(want), wantErr)
	}
	if err != api.OK {
		return err
	}
	if again, err := subtree.Encode(s); again != b || err != api.OK {
		t.Fatalf("Decode accepts %x, but Encode writes %x, %d", b, again, err)
	}
	return api.OK
}

// Parts of encodings.
func seq(l ...string) string       { return der(0x30, l...) }
func permitted(l ...string) string { return der(0xa0, l...) }
func excluded(l ...string) string  { return der(0xa1, l...) }

const (
	treeA = "\x30\x03\x82\x01a" // a subtree
	treeB = "\x30\x03\x81\x01b"
)

// wholes are encodings to which the tests of errors make changes.
func wholes(t *testing.T) []string {
	t.Helper()
	var l []string
	for _, s := range []string{"dns:a.b", "! mail:.b", "dns: ! mail:b", "dns:a mail:x@b dns:A ! ip:0a000000ff000000", "dir:CN=a,O=b ! dir: dns:"} {
		b, err := subtree.Encode(trees(s))
		if err != api.OK {
			t.Fatalf("Encode(%s) has the error %d", s, err)
		}
		l = append(l, b)
	}
	return l
}

// TestDecodeErrors: P10.2, each error in each place, and which one comes first if there are several.
func TestDecodeErrors(t *testing.T) {
	const wrong, text = "\x04\x00", "\x30\x03\x82\x01*" // no sequence, and a text that is no base
	for _, k := range []struct {
		what, b string
		want    api.Errno
	}{
		{"nothing", "", api.ErrTruncated}, {"no length", "\x30", api.ErrTruncated}, {"a long tag", "\x3f\x00", api.ErrTag}, {"an indefinite length", "\x30\x80" + permitted(treeA) + "\x00\x00", api.ErrLength}, {"a length that is not minimal", "\x30\x81\x07" + permitted(treeA), api.ErrLength}, {"cut off", seq(permitted(treeA))[:8], api.ErrTruncated},
		{"bytes behind it", seq(permitted(treeA)) + "\x00", api.ErrTrailing}, {"a set with bytes behind it", der(0x31, permitted(treeA)) + "\x00", api.ErrTrailing}, {"no sequence", der(0x31, permitted(treeA)), api.ErrTag}, {"a part alone", permitted(treeA), api.ErrTag}, {"no sequence, and contents that cannot be divided", der(0x31, "\xa0"), api.ErrTag}, {"an octet string", der(0x04, permitted(treeA)), api.ErrTag},

		{"neither part", seq(), api.ErrValue},
		{"a part is cut off", seq("\xa0"), api.ErrTruncated}, {"the second part is cut off", seq(permitted(treeA), "\xa1\x06"+treeA), api.ErrTruncated}, {"a wrong subtree, and the second part is cut off", seq(permitted(wrong), "\xa1\x06"+treeA), api.ErrTruncated}, {"no subtrees, and a bad length behind it", seq(permitted(), "\xa1\x80"), api.ErrLength}, {"another part, and a long tag behind it", seq(wrong, "\x1f\x00"), api.ErrTag},

		{"the parts in the other order", seq(excluded(treeA), permitted(treeA)), api.ErrTrailing}, {"the permitted ones twice", seq(permitted(treeA), permitted(treeA)), api.ErrTrailing}, {"the excluded ones twice", seq(excluded(treeA), excluded(treeA)), api.ErrTrailing}, {"a third part", seq(permitted(treeA), excluded(treeA), der(0xa2, treeA)), api.ErrTrailing}, {"three parts", seq(permitted(treeA), excluded(treeA), permitted(treeA)), api.ErrTrailing},
		{"another part first", seq(der(0xa2, treeA), permitted(treeA)), api.ErrTrailing}, {"another part alone", seq(der(0xa2, treeA)), api.ErrTrailing}, {"another part between them", seq(permitted(treeA), "\x05\x00", excluded(treeA)), api.ErrTrailing}, {"parts that are primitive", seq(der(0x80, treeA), der(0x81, treeA)), api.ErrTrailing}, {"a part that is not wrapped", seq(treeA), api.ErrTrailing}, {"an empty part behind the others", seq(permitted(treeA), excluded(treeA), "\xa1\x00"), api.ErrTrailing},
		{"the other order, and an error in the excluded ones", seq(excluded(wrong), permitted(treeA)), api.ErrTag}, {"the other order, and an error in the permitted ones", seq(excluded(treeA), permitted(wrong)), api.ErrTrailing}, {"the other order, and no permitted ones", seq(excluded(treeA), permitted()), api.ErrTrailing}, {"more behind them, and an error in the excluded ones", seq(permitted(treeA), excluded(text), "\x05\x00"), api.ErrName}, {"another part first, and an error in the permitted ones", seq("\x05\x00", permitted(wrong)), api.ErrTrailing},

		{"no permitted ones", seq(permitted()), api.ErrValue}, {"no excluded ones", seq(excluded()), api.ErrValue}, {"none of both", seq(permitted(), excluded()), api.ErrValue}, {"no permitted ones, and excluded ones", seq(permitted(), excluded(treeA)), api.ErrValue}, {"permitted ones, and no excluded ones", seq(permitted(treeA), excluded()), api.ErrValue},
		{"no permitted ones, and an error in the excluded ones", seq(permitted(), excluded(wrong)), api.ErrValue}, {"an error in the permitted ones, and no excluded ones", seq(permitted(wrong), excluded()), api.ErrTag}, {"no excluded ones, and more behind them", seq(excluded(), "\x05\x00"), api.ErrValue},

		{"a subtree is cut off", seq(permitted("\x30")), api.ErrTruncated}, {"a subtree has a bad length", seq(excluded(treeA, "\x30\x80\x00\x00")), api.ErrLength}, {"a wrong subtree, and the next one is cut off", seq(permitted(wrong, "\x30\x03\x82")), api.ErrTruncated}, {"a wrong subtree, and the next one has a bad length", seq(permitted(wrong, "\x30\x84")), api.ErrLength},
		{"no sequence", seq(permitted(wrong)), api.ErrTag}, {"a set", seq(permitted("\x31\x03\x82\x01a")), api.ErrTag}, {"a name that is not wrapped", seq(permitted("\x82\x01a")), api.ErrTag}, {"no sequence behind a subtree", seq(excluded(treeA, wrong)), api.ErrTag}, {"no sequence, and contents that cannot be divided", seq(permitted("\x31\x01\x82")), api.ErrTag},
		{"a sequence without an element", seq(permitted(seq())), api.ErrTruncated}, {"a sequence without an element behind a subtree", seq(excluded(treeA, seq())), api.ErrTruncated}, {"a sequence with two names", seq(permitted(seq("\x82\x01a", "\x82\x01a"))), api.ErrTrailing}, {"a sequence with a name and a number", seq(excluded(seq("\x82\x01a", "\x80\x01\x00"))), api.ErrTrailing},
		{"the name is cut off", seq(permitted(seq("\x82\x02a"))), api.ErrTruncated}, {"a wrong name, and the next one is cut off", seq(permitted(seq("\x83\x01a", "\x82"))), api.ErrTruncated}, {"a wrong name, and the next one has a bad length", seq(permitted(seq("\x83\x01a", "\x82\x81\x01a"))), api.ErrLength},
		{"a wrong name, and another one", seq(permitted(seq("\x83\x01a", "\x82\x01a"))), api.ErrTag}, {"a wrong text, and another one", seq(permitted(seq("\x82\x01*", "\x82\x01a"))), api.ErrName}, {"a number before the name", seq(permitted(seq("\x80\x01\x00", "\x82\x01a"))), api.ErrTag},

		{"another kind", seq(permitted(seq("\x83\x01a"))), api.ErrTag}, {"a text that is no base", seq(permitted(text)), api.ErrName}, {"an address", seq(permitted(seq("\x87\x04abcd"))), api.ErrName}, {"a pattern", seq(excluded(seq("\x82\x05*.a.b"))), api.ErrName}, {"no mail base", seq(excluded(seq("\x81\x00"))), api.ErrName},
		{"a directory name without contents", seq(permitted(seq("\xa4\x00"))), api.ErrTruncated}, {"a directory name and more", seq(permitted(seq("\xa4\x04\x30\x00\x05\x00"))), api.ErrTrailing}, {"a set as a directory name", seq(permitted(seq("\xa4\x02\x31\x00"))), api.ErrTag}, {"an empty relative name", seq(excluded(seq("\xa4\x04\x30\x02\x31\x00"))), api.ErrName}, {"a bad length in a directory name", seq(permitted(seq("\xa4\x02\x30\x80"))), api.ErrLength},
		{"attributes in another order", seq(permitted(seq("\xa4\x18\x30\x16\x31\x14\x30\x08\x06\x03\x55\x04\x0a\x13\x01B\x30\x08\x06\x03\x55\x04\x03\x13\x01A"))), api.ErrOrder}, {"an attribute with a bad object identifier", seq(permitted(seq("\xa4\x0b\x30\x09\x31\x07\x30\x05\x06\x00\x13\x01A"))), api.ErrOID}, {"an attribute without a value", seq(permitted(seq("\xa4\x0d\x30\x0b\x31\x09\x30\x07\x06\x03\x55\x04\x03\x13\x00"))), api.ErrString},

		{"two wrong subtrees", seq(permitted(seq(), text)), api.ErrTruncated}, {"two wrong subtrees, exchanged", seq(permitted(text, seq())), api.ErrName}, {"wrong subtrees in both parts", seq(permitted(text), excluded(wrong)), api.ErrName}, {"wrong subtrees in both parts, exchanged", seq(permitted(wrong), excluded(text)), api.ErrTag}, {"an error in the excluded ones alone", seq(permitted(treeA, treeB), excluded(treeB, seq())), api.ErrTruncated},

		{"MaxNames permitted ones", seq(permitted(strings.Repeat(treeA, 16))), api.OK}, {"MaxNames of both", seq(permitted(strings.Repeat(treeA, 16)), excluded(strings.Repeat(treeB, 16))), api.OK}, {"one more permitted", seq(permitted(strings.Repeat(treeA, 17))), api.ErrLimit}, {"one more excluded", seq(permitted(treeA), excluded(strings.Repeat(treeB, 17))), api.ErrLimit}, {"many", seq(excluded(strings.Repeat(treeA, 5000))), api.ErrLimit},
		{"one more, and it is wrong", seq(permitted(strings.Repeat(treeA, 16), wrong)), api.ErrTag}, {"one more, all wrong", seq(permitted(strings.Repeat(text, 17))), api.ErrName}, {"one more permitted, and an error in the excluded ones", seq(permitted(strings.Repeat(treeA, 17)), excluded(text)), api.ErrName}, {"one more permitted, and no excluded ones", seq(permitted(strings.Repeat(treeA, 17)), excluded()), api.ErrValue}, {"one more permitted, and more behind them", seq(permitted(strings.Repeat(treeA, 17)), permitted(treeA)), api.ErrTrailing},
	} {
		if s, err := subtree.Decode(k.b); err != k.want || none(s) != (err != api.OK) {
			t.Errorf("%s: Decode(%.40x) is %s, %d, want error %d", k.what, k.b, showTrees(s), err, k.want)
		}
		checkDecode(t, k.b)
	}
}

// TestDecodeTags: P10.2, every identifier octet in every place.
func TestDecodeTags(t *testing.T) {
	for tag := range 256 {
		if tag%32 == 31 {
			continue
		}
		kind := tag == 0x81 || tag == 0x82 || tag == 0x87 || tag == 0xa4
		for _, k := range []struct {
			what, b string
			want    bool
			err     api.Errno
		}{
			{"the whole", der(tag, permitted(treeA), excluded(treeB)), tag == 0x30, api.ErrTag},
			{"the only part", seq(der(tag, treeA)), tag == 0xa0 || tag == 0xa1, api.ErrTrailing},
			{"the first part", seq(der(tag, treeA), excluded(treeB)), tag == 0xa0, api.ErrTrailing},
			{"the second part", seq(permitted(treeA), der(tag, treeB)), tag == 0xa1, api.ErrTrailing},
			{"a permitted subtree", seq(permitted(treeA, der(tag, "\x82\x01a"))), tag == 0x30, api.ErrTag},
			{"an excluded subtree", seq(excluded(der(tag, "\x82\x01a"), treeA)), tag == 0x30, api.ErrTag},
			{"a name", seq(permitted(seq(der(tag, "\x30\x00")))), tag == 0xa4, api.ErrTag},
			{"an excluded name", seq(excluded(treeA, seq(der(tag, "b.c")))), tag == 0x81 || tag == 0x82, api.ErrTag},
			{"a name behind another one", seq(permitted(seq("\x82\x01a", der(tag, "a")))), false, api.ErrTrailing},
		} {
			err := checkDecode(t, k.b)
			if k.want != (err == api.OK) || err != api.OK && err != k.err && !kind {
				t.Errorf("%s with the identifier octet %#x: Decode(%x) has the error %d", k.what, tag, k.b, err)
			}
		}
	}
}

// TestDecodeCutOff: P10.2, every encoding cut off anywhere, and followed by something.
func TestDecodeCutOff(t *testing.T) {
	for _, b := range wholes(t) {
		for i := range len(b) {
			if s, err := subtree.Decode(b[:i]); err != api.ErrTruncated || !none(s) {
				t.Errorf("Decode(%x) is %s, %d, want ErrTruncated", b[:i], showTrees(s), err)
			}
		}
		for _, more := range []string{"\x00", "\x30", b, "\x05\x00", "\x1f", strings.Repeat("a", 1000)} {
			if s, err := subtree.Decode(b + more); err != api.ErrTrailing || !none(s) {
				t.Errorf("Decode(%x) is %s, %d, want ErrTrailing", b+more, showTrees(s), err)
			}
		}
	}
}

// TestDecodeChanged: P10.2, every byte of an encoding is another one, is missing, or is added.
func TestDecodeChanged(t *testing.T) {
	seen := map[api.Errno]int{}
	for _, b := range wholes(t) {
		for i := range len(b) + 1 {
			for c := range 256 {
				s := string([]byte{byte(c)})
				seen[checkDecode(t, b[:i]+s+b[i:])]++
				if i < len(b) {
					seen[checkDecode(t, b[:i]+s+b[i+1:])]++
				}
			}
			if i < len(b) {
				seen[checkDecode(t, b[:i]+b[i+1:])]++
			}
		}
	}
	for _, err := range []api.Errno{api.OK, api.ErrTruncated, api.ErrTrailing, api.ErrTag, api.ErrLength, api.ErrName} {
		if seen[err] < 10 {
			t.Errorf("only %d encodings with the error %d", seen[err], err)
		}
	}
}

// randomEncoding returns an encoding of the form of constraints, parts of which are missing, are there twice, or are others.
func randomEncoding(r *rand.Rand) string {
	some := func(usual string, others ...string) string {
		if r.Intn(25) > 0 {
			return usual
		}
		return others[r.Intn(len(others))]
	}
	good := bases()
	part := func(tag int) string {
		var l []string
		for range []int{0, 1, 1, 1, 2, 3, 5, 16, 17}[r.Intn(9)] {
			g, _ := gname.Encode(good[r.Intn(len(good))], true)
			if r.Intn(60) == 0 {
				g = []string{"\x83\x01a", "\x82\x01*", "\xa4\x00", "", g + g, "\x82", "\x87\x04abcd"}[r.Intn(7)]
			}
			l = append(l, seq(g))
			if r.Intn(100) == 0 {
				l = append(l, der(0x31, g), g)
			}
		}
		if len(l) == 0 && r.Intn(4) > 0 {
			return ""
		}
		return some(der(tag, l...), der(0x30, l...), der(tag+1, l...), der(tag-0x20, l...), der(tag, l...)+der(tag, l...))
	}
	p, e := part(0xa0), part(0xa1)
	return some(seq(p, e), seq(e, p), seq(p, e, "\x05\x00"), der(0x31, p, e), seq(p, e)+"\x00", seq(p, p), seq(p, e, e))
}

// TestDecodeRandom: P10.2, random encodings of the form of constraints, some of whose bytes are changed.
func TestDecodeRandom(t *testing.T) {
	r := rand.New(rand.NewSource(3))
	seen := map[api.Errno]int{}
	for range 10000 {
		b := randomEncoding(r)
		seen[checkDecode(t, b)]++
		changed := []byte(b)
		for range 1 + r.Intn(2) {
			changed[r.Intn(len(changed))] ^= 1 << r.Intn(8)
		}
		seen[checkDecode(t, string(changed))]++
	}
	for _, err := range []api.Errno{api.OK, api.ErrTruncated, api.ErrTrailing, api.ErrTag, api.ErrLength, api.ErrValue, api.ErrLimit, api.ErrName} {
		if seen[err] < 50 {
			t.Errorf("only %d encodings with the error %d", seen[err], err)
		}
	}
}

// TestDecodeHuge: P10.2 and R1, encodings that are as long as an element can be, and longer.
func TestDecodeHuge(t *testing.T) {
	for _, n := range []int{1000, api.MaxBytes/5 - 10, api.MaxBytes / 5} {
		for _, part := range []string{treeA, "\x30\x03\x82\x01*", "\x30\x00\x30\x01\x00"} {
			l := strings.Repeat(part, n)
			checkDecode(t, seq(permitted(l)))
			checkDecode(t, seq(excluded(l)))
			checkDecode(t, seq(permitted(treeA), excluded(l)))
			checkDecode(t, seq(permitted(seq(l))))
		}
	}
	checkDecode(t, strings.Repeat("\x30\x80", 1<<20))
	checkDecode(t, strings.Repeat("\xa0", 1<<20))
	nested := treeA
	for range 100 {
		nested = permitted(seq(nested))
		checkDecode(t, seq(nested))
	}
}
