package gname_test

import (
	"encoding/hex"
	"math/rand"
	"strings"
	"testing"

	"certpath/api"
	"certpath/dname"
	"certpath/gname"
	"certpath/text"
)

// modelFormat is P9.5 for Format.
func modelFormat(g api.GeneralName) (string, api.Errno) {
	switch g.Kind {
	case 1:
		return "mail:" + text.Escape(g.Text), api.OK
	case 2:
		return "dns:" + text.Escape(g.Text), api.OK
	case 4:
		s, err := dname.Format(g.Name)
		if err != api.OK {
			return "", err
		}
		return "dir:" + s, api.OK
	case 7:
		return "ip:" + hex.EncodeToString([]byte(g.Text)), api.OK
	}
	return "", api.ErrName
}

// checkFormat compares Format with P9.5, and Parse with what a general name has, if it is valid.
func checkFormat(t *testing.T, g api.GeneralName) {
	t.Helper()
	want, wantErr := modelFormat(g)
	s, err := gname.Format(g)
	if s != want || err != wantErr {
		t.Fatalf("Format(%s) is %.300q, %d, want %.300q, %d", show(g), s, err, want, wantErr)
	}
	if modelCheck(g, false) != api.OK && modelCheck(g, true) != api.OK {
		return
	}
	back, err := gname.Parse(s)
	if err != api.OK || back.Kind != g.Kind || back.Text != g.Text || !dname.Match(back.Name, g.Name) {
		t.Fatalf("Parse(%.300q) is %s, %d, want %s", s, show(back), err, show(g))
	}
	if again, err := gname.Format(back); again != s && g.Kind != kindDirectory || err != api.OK {
		t.Fatalf("Format of Parse(%.300q) is %.300q, %d", s, again, err)
	}
}

// TestFormatKnown: P9.5, the texts of names and bases of each kind, and of texts that are neither.
func TestFormatKnown(t *testing.T) {
	for _, k := range []struct {
		g    api.GeneralName
		want string
	}{
		{mailName("ann@example.org"), "mail:ann@example.org"}, {mailName(".Example.org"), "mail:.Example.org"}, {mailName("a+b@c"), `mail:a\2bb@c`}, {mailName("#!$%&*=^`{|}~@c"), `mail:\23\21\24\25\26\2a\3d\5e\60\7b\7c\7d\7e@c`}, {mailName(""), "mail:"},
		{dnsName("Example.org"), "dns:Example.org"}, {dnsName("*.a.b"), `dns:\2a.a.b`}, {dnsName(""), "dns:"}, {dnsName("a,b"), `dns:a\2cb`}, {dnsName(`\`), `dns:\5c`}, {dnsName("é\x00"), `dns:\c3\a9\00`},
		{dirName(api.Name{}), "dir:"}, {dirName(name(cn("Web Server"), []api.Attribute{attr(api.OIDOrganization, "Example")})), "dir:CN=Web Server,O=Example"}, {dirName(name([]api.Attribute{attr("2.5.4.10", "b"), attr("2.5.4.3", "a")})), `dir:CN=a+O=b`}, {dirName(name([]api.Attribute{attr("2.5.4.10", "b"), attr("2.5.4.3", "a,b")})), `dir:O=b+CN=a\2cb`},
		{ipName(home), "ip:7f000001"}, {ipName(ten), "ip:0a000000ff000000"}, {ipName(six), "ip:20010db8000000000000000000000001"}, {ipName(""), "ip:"}, {ipName("\xab"), "ip:ab"}, {ipName("abcd"), "ip:61626364"},
	} {
		if s, err := gname.Format(k.g); s != k.want || err != api.OK {
			t.Errorf("Format(%s) is %q, %d, want %q", show(k.g), s, err, k.want)
		}
		checkFormat(t, k.g)
	}
}

// TestFormatErrors: P9.5, kinds that are none of the four, and names with each error of dname.Format; nothing else is looked at.
func TestFormatErrors(t *testing.T) {
	for _, k := range otherKinds {
		for _, g := range []api.GeneralName{{}, {Text: "a.b"}, {Name: name(cn("a"))}, {Name: bad[api.ErrLimit]}, {Text: "a", Name: bad[api.ErrOID]}} {
			g.Kind = k
			if s, err := gname.Format(g); s != "" || err != api.ErrName {
				t.Errorf("Format(%s) is %q, %d", show(g), s, err)
			}
		}
	}
	for want, n := range bad {
		for _, s := range []string{"", "a", "\x00"} {
			g := api.GeneralName{Kind: kindDirectory, Text: s, Name: n}
			if s, err := gname.Format(g); s != "" || err != want {
				t.Errorf("Format(%s) is %q, %d, want error %d", show(g), s, err, want)
			}
		}
		for k, want := range map[int]string{kindMail: "mail:a..b@", kindDNS: "dns:a..b@", kindAddress: "ip:612e2e6240"} {
			g := api.GeneralName{Kind: k, Text: "a..b@", Name: n}
			if s, err := gname.Format(g); s != want || err != api.OK {
				t.Errorf("Format(%s) is %q, %d, want %q", show(g), s, err, want)
			}
		}
	}
	g := api.GeneralName{Kind: kindDirectory, Text: "a", Name: name(cn("a"))}
	if s, err := gname.Format(g); s != "dir:CN=a" || err != api.OK {
		t.Errorf("Format(%s) is %q, %d", show(g), s, err)
	}
}

// TestFormatAll: P9.5, all kinds, texts and names in all combinations.
func TestFormatAll(t *testing.T) {
	eachName(func(g api.GeneralName) { checkFormat(t, g) })
}

// TestFormatBytes: P9.5, every byte in texts of each kind.
func TestFormatBytes(t *testing.T) {
	for c := range 256 {
		for _, k := range fourKinds {
			for _, s := range []string{"", "a", "@b", home} {
				checkFormat(t, api.GeneralName{Kind: k, Text: string([]byte{byte(c)}) + s})
			}
		}
	}
}

// TestFormatRandom: P9.5, random names and bases, which Parse returns again.
func TestFormatRandom(t *testing.T) {
	r := rand.New(rand.NewSource(7))
	for range 10000 {
		checkFormat(t, randomName(r, r.Intn(2) == 0))
	}
}

// TestFormatHuge: P9.5 and R1, texts that are much longer than the limits.
func TestFormatHuge(t *testing.T) {
	for _, k := range fourKinds {
		checkFormat(t, api.GeneralName{Kind: k, Text: strings.Repeat("a*", 1<<20)})
	}
}
