package gname_test

import (
	"math/rand"
	"slices"
	"strings"
	"testing"

	"certpath/api"
	"certpath/gname"
	"certpath/tlv"
)

// modelEncodeList is P9.3 for EncodeList.
func modelEncodeList(l []api.GeneralName) (string, api.Errno) {
	if len(l) == 0 {
		return "", api.ErrValue
	}
	if len(l) > 16 {
		return "", api.ErrLimit
	}
	all := ""
	for _, g := range l {
		b, err := modelEncode(g, false)
		if err != api.OK {
			return "", err
		}
		all += b
	}
	return all, api.OK
}

// modelDecodeList is P9.3 for DecodeList.
func modelDecodeList(contents string) ([]api.GeneralName, api.Errno) {
	elements, err := tlv.List(contents)
	if err != api.OK {
		return nil, err
	}
	if len(elements) == 0 {
		return nil, api.ErrValue
	}
	if len(elements) > 16 {
		return nil, api.ErrLimit
	}
	var l []api.GeneralName
	for _, e := range elements {
		g, err := modelDecode(e, false)
		if err != api.OK {
			return nil, err
		}
		l = append(l, g)
	}
	return l, api.OK
}

// checkEncodeList compares EncodeList with P9.3, and DecodeList of what it writes with l.
func checkEncodeList(t *testing.T, l []api.GeneralName) api.Errno {
	t.Helper()
	want, wantErr := modelEncodeList(l)
	b, err := gname.EncodeList(l)
	if b != want || err != wantErr {
		t.Fatalf("EncodeList(%d: %.300s) is %.100x, %d, want %.100x, %d", len(l), showAll(l), b, err, want, wantErr)
	}
	if err != api.OK {
		return err
	}
	var names []api.GeneralName
	for _, g := range l {
		names = append(names, ordered(t, g))
	}
	back, err := gname.DecodeList(b)
	if err != api.OK || !slices.EqualFunc(back, names, identical) {
		t.Fatalf("DecodeList of EncodeList(%.300s) is %.300s, %d", showAll(l), showAll(back), err)
	}
	return api.OK
}

// checkDecodeList compares DecodeList with P9.3, and EncodeList of what it returns with the contents.
func checkDecodeList(t *testing.T, contents string) api.Errno {
	t.Helper()
	want, wantErr := modelDecodeList(contents)
	l, err := gname.DecodeList(contents)
	if !slices.EqualFunc(l, want, identical) || err != wantErr {
		t.Fatalf("DecodeList(%.300x) is %.300s, %d, want %.300s, %d", contents, showAll(l), err, showAll(want), wantErr)
	}
	if err != api.OK {
		return err
	}
	if b, err := gname.EncodeList(l); b != contents || err != api.OK {
		t.Fatalf("DecodeList accepts %.300x, but EncodeList writes %.300x, %d", contents, b, err)
	}
	return api.OK
}

// showAll returns what an error says about a list.
func showAll(l []api.GeneralName) string {
	var s []string
	for _, g := range l {
		s = append(s, show(g))
	}
	return strings.Join(s, " ")
}

// TestListKnown: P9.3, the bytes of lists, in their order.
func TestListKnown(t *testing.T) {
	for _, k := range []struct {
		l []api.GeneralName
		b string
	}{
		{[]api.GeneralName{dnsName("a.b")}, "\x82\x03a.b"},
		{[]api.GeneralName{mailName("a@b")}, "\x81\x03a@b"},
		{[]api.GeneralName{ipName(home)}, "\x87\x04" + home},
		{[]api.GeneralName{dirName(api.Name{})}, "\xa4\x02\x30\x00"},
		{[]api.GeneralName{dnsName("b"), dnsName("a")}, "\x82\x01b\x82\x01a"},
		{[]api.GeneralName{dnsName("a"), dnsName("a"), dnsName("A")}, "\x82\x01a\x82\x01a\x82\x01A"},
		{[]api.GeneralName{ipName(six), dirName(name(cn("A"))), dnsName("*.a.b"), mailName("a@b"), dirName(api.Name{})}, "\x87\x10" + six + "\xa4\x0e\x30\x0c\x31\x0a\x30\x08\x06\x03\x55\x04\x03\x13\x01A\x82\x05*.a.b\x81\x03a@b\xa4\x02\x30\x00"},
	} {
		if b, err := gname.EncodeList(k.l); b != k.b || err != api.OK {
			t.Errorf("EncodeList(%s) is %x, %d, want %x", showAll(k.l), b, err, k.b)
		}
		if l, err := gname.DecodeList(k.b); !slices.EqualFunc(l, k.l, identical) || err != api.OK {
			t.Errorf("DecodeList(%x) is %s, %d, want %s", k.b, showAll(l), err, showAll(k.l))
		}
	}
}

// TestEncodeListErrors: P9.3, each error of EncodeList, and which one comes first if there are several.
func TestEncodeListErrors(t *testing.T) {
	a, unknown := dnsName("a"), api.GeneralName{Kind: 3}
	for _, k := range []struct {
		what string
		l    []api.GeneralName
		want api.Errno
	}{
		{"nil", nil, api.ErrValue}, {"no names", []api.GeneralName{}, api.ErrValue},
		{"one name", []api.GeneralName{a}, api.OK}, {"MaxNames", slices.Repeat([]api.GeneralName{a}, api.MaxNames), api.OK},
		{"one more", slices.Repeat([]api.GeneralName{a}, api.MaxNames+1), api.ErrLimit}, {"many", slices.Repeat([]api.GeneralName{a}, 5000), api.ErrLimit},
		{"one more, all with errors", slices.Repeat([]api.GeneralName{unknown}, api.MaxNames+1), api.ErrLimit}, {"one more, the last one with an error", append(slices.Repeat([]api.GeneralName{a}, api.MaxNames), unknown), api.ErrLimit},
		{"MaxNames, the last one with an error", append(slices.Repeat([]api.GeneralName{a}, api.MaxNames-1), dirName(bad[api.ErrOID])), api.ErrOID},
		{"the zero name", []api.GeneralName{{}}, api.ErrName}, {"a zero name at the end", []api.GeneralName{a, {}}, api.ErrName}, {"another kind", []api.GeneralName{a, unknown, a}, api.ErrName},
		{"a range", []api.GeneralName{ipName(ten)}, api.ErrName}, {"a base of mail addresses", []api.GeneralName{mailName("b")}, api.ErrName}, {"the empty base", []api.GeneralName{dnsName("")}, api.ErrName}, {"a pattern", []api.GeneralName{dnsName("*.a.b")}, api.OK},
		{"a text with an error, then a name", []api.GeneralName{dnsName("a..b"), dirName(bad[api.ErrLimit])}, api.ErrName}, {"a name with an error, then a text", []api.GeneralName{dirName(bad[api.ErrLimit]), dnsName("a..b")}, api.ErrLimit},
		{"two names with errors", []api.GeneralName{dirName(bad[api.ErrString]), dirName(bad[api.ErrDuplicate])}, api.ErrString}, {"two names with errors, exchanged", []api.GeneralName{dirName(bad[api.ErrDuplicate]), dirName(bad[api.ErrString])}, api.ErrDuplicate}, {"two names with errors, behind others", []api.GeneralName{a, a, dirName(bad[api.ErrDuplicate]), a, unknown}, api.ErrDuplicate},
	} {
		if b, err := gname.EncodeList(k.l); err != k.want || (b == "") != (err != api.OK) {
			t.Errorf("%s: EncodeList is %.100x, %d, want error %d", k.what, b, err, k.want)
		}
		checkEncodeList(t, k.l)
	}
}

// TestDecodeListErrors: P9.3, each error of DecodeList, and which one comes first if there are several.
func TestDecodeListErrors(t *testing.T) {
	a, unknown, text, nameless := "\x82\x01a", "\x83\x01a", "\x82\x04a..b", "\xa4\x02\x31\x00"
	for _, k := range []struct {
		what, b string
		want    api.Errno
	}{
		{"nothing", "", api.ErrValue},
		{"one element", a, api.OK}, {"MaxNames", strings.Repeat(a, api.MaxNames), api.OK}, {"one more", strings.Repeat(a, api.MaxNames+1), api.ErrLimit}, {"many", strings.Repeat(a, 5000), api.ErrLimit},
		{"one more, all with errors", strings.Repeat(unknown, api.MaxNames+1), api.ErrLimit}, {"one more, and then one is cut off", strings.Repeat(a, api.MaxNames+1) + "\x82", api.ErrTruncated}, {"one more, cut off", strings.Repeat(a, api.MaxNames) + "\x82\x01", api.ErrTruncated}, {"MaxNames, the last one with an error", strings.Repeat(a, api.MaxNames-1) + unknown, api.ErrTag},
		{"no length", "\x82", api.ErrTruncated}, {"no contents", a + "\x82\x01", api.ErrTruncated}, {"a long tag", a + "\x9f\x00", api.ErrTag}, {"an indefinite length", "\x82\x80a\x00\x00", api.ErrLength}, {"a length that is not minimal", "\x82\x81\x01a", api.ErrLength},
		{"a wrong tag, and the next one is cut off", unknown + "\x82", api.ErrTruncated}, {"a wrong tag, and the next one has a bad length", unknown + "\x82\x80", api.ErrLength}, {"a bad length, and the next one is cut off", "\x82\x81\x01a\x82", api.ErrLength}, {"a wrong text, and the next one has a long tag", text + "\xbf\x00", api.ErrTag},
		{"a wrong tag", unknown, api.ErrTag}, {"a wrong tag behind another one", a + unknown, api.ErrTag}, {"a wrong text", text, api.ErrName}, {"a wrong text at the end", a + a + text, api.ErrName}, {"a wrong name", nameless, api.ErrTag}, {"a directory name without contents", "\xa4\x00", api.ErrTruncated}, {"a name and more", "\xa4\x04\x30\x00\x05\x00", api.ErrTrailing}, {"a name with an empty set", "\xa4\x04\x30\x02\x31\x00", api.ErrName},
		{"a wrong text, then a wrong tag", text + unknown, api.ErrName}, {"a wrong tag, then a wrong text", unknown + text, api.ErrTag}, {"a wrong name, then a wrong text", a + "\xa4\x00" + text, api.ErrTruncated}, {"a wrong text, then a wrong name", a + text + "\xa4\x00", api.ErrName},
		{"a range", "\x87\x08" + ten, api.ErrName}, {"a base of mail addresses", "\x81\x01b", api.ErrName}, {"the empty base", "\x82\x00", api.ErrName}, {"a pattern", "\x82\x05*.a.b", api.OK},
		{"a sequence of names", "\x30\x03" + a, api.ErrTag},
	} {
		l, err := gname.DecodeList(k.b)
		if err != k.want || (len(l) == 0) != (err != api.OK) {
			t.Errorf("%s: DecodeList is %.100s, %d, want error %d", k.what, showAll(l), err, k.want)
		}
		checkDecodeList(t, k.b)
	}
}

// TestListNumbers: P9.3, lists of every number of names, of each kind and of one that is none, with the error at every place.
func TestListNumbers(t *testing.T) {
	for n := range 2*api.MaxNames + 3 {
		for _, g := range []api.GeneralName{mailName("a@b"), dnsName("*.a.b"), dirName(name(cn("a"))), ipName(home), {}} {
			l := slices.Repeat([]api.GeneralName{g}, n)
			want := api.OK
			switch {
			case n == 0:
				want = api.ErrValue
			case n > 16:
				want = api.ErrLimit
			case g.Kind == 0:
				want = api.ErrName
			}
			if err := checkEncodeList(t, l); err != want {
				t.Errorf("EncodeList of %d times %s has the error %d, want %d", n, show(g), err, want)
			}
			b, _ := gname.Encode(g, false)
			checkDecodeList(t, strings.Repeat(b, n))
			for i := range n {
				l[i] = dirName(bad[api.ErrDuplicate])
				checkEncodeList(t, l)
				l[i] = g
				checkDecodeList(t, strings.Repeat(b, i)+"\x81\x01b"+strings.Repeat(b, n-1-i))
				checkDecodeList(t, strings.Repeat(b, i)+"\x83\x01b"+strings.Repeat(b, n-1-i))
				checkDecodeList(t, strings.Repeat(b, i)+"\x82\x81\x01b"+strings.Repeat(b, n-1-i))
			}
		}
	}
}

// TestListRandom: P9.3 and P9.6, random lists, with bases and other errors among the names, and their contents with one byte changed.
func TestListRandom(t *testing.T) {
	r := rand.New(rand.NewSource(4))
	errors := badNames()
	seen := map[api.Errno]int{}
	for range 5000 {
		var l []api.GeneralName
		var b strings.Builder
		errorsIn := r.Intn(3) == 0
		for range r.Intn(api.MaxNames + 2) {
			g := randomName(r, errorsIn && r.Intn(8) == 0)
			if errorsIn && r.Intn(16) == 0 {
				g = dirName(errors[r.Intn(len(errors))])
			}
			l = append(l, g)
			e, _ := gname.Encode(g, modelCheck(g, false) != api.OK) // the element of a base too
			b.WriteString(e)
		}
		seen[checkEncodeList(t, l)]++
		checkDecodeList(t, b.String())
		if changed := []byte(b.String()); len(changed) > 0 {
			changed[r.Intn(len(changed))] ^= 1 << r.Intn(8)
			seen[checkDecodeList(t, string(changed))]++
			checkDecodeList(t, string(changed[:r.Intn(len(changed))]))
		}
	}
	for _, err := range []api.Errno{api.OK, api.ErrName, api.ErrLimit, api.ErrValue, api.ErrTag, api.ErrTruncated} {
		if seen[err] < 20 {
			t.Errorf("only %d lists with the error %d", seen[err], err)
		}
	}
}
