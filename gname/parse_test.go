package gname_test

import (
	"encoding/hex"
	"math/rand"
	"regexp"
	"strings"
	"testing"

	"certpath/api"
	"certpath/dname"
	"certpath/gname"
	"certpath/text"
)

// form is what P9.5 says of a text, apart from which escapes are those of text.Escape, and from names.
var form = regexp.MustCompile(`(?s)^(?:(mail|dns):((?:[A-Za-z0-9 '()\-./:?@_]|\\[0-9a-f]{2})*)|(ip):((?:[0-9a-f]{2})*)|(dir):(.*))$`)

// modelParse is P9.5 for Parse.
func modelParse(s string) (api.GeneralName, api.Errno) {
	p := form.FindStringSubmatch(s)
	if p == nil {
		return api.GeneralName{}, api.ErrSyntax
	}
	var g api.GeneralName
	switch p[1] + p[3] + p[5] {
	case "dir":
		n, err := dname.Parse(p[6])
		if err != api.OK {
			return g, err
		}
		g = dirName(n)
	case "ip":
		b, _ := hex.DecodeString(p[4])
		g = ipName(string(b))
	default:
		s, ok := text.Unescape(p[2])
		if !ok {
			return g, api.ErrSyntax
		}
		g = api.GeneralName{Kind: map[string]int{"mail": kindMail, "dns": kindDNS}[p[1]], Text: s}
	}
	if modelCheck(g, true) == api.OK {
		return g, api.OK
	}
	if err := modelCheck(g, false); err != api.OK {
		return api.GeneralName{}, err
	}
	return g, api.OK
}

// checkParse compares Parse with P9.5, and Format of what it returns with the text; it returns the error of Parse.
func checkParse(t *testing.T, s string) api.Errno {
	t.Helper()
	want, wantErr := modelParse(s)
	g, err := gname.Parse(s)
	if !identical(g, want) || err != wantErr {
		t.Fatalf("Parse(%.300q) is %s, %d, want %s, %d", s, show(g), err, show(want), wantErr)
	}
	if err != api.OK {
		return err
	}
	if back, err := gname.Format(g); err != api.OK || g.Kind != kindDirectory && back != s {
		t.Fatalf("Parse accepts %.300q, but Format writes %.300q, %d", s, back, err)
	}
	return api.OK
}

// TestParseKnown: P9.5, texts of names of each kind, and of bases and ranges.
func TestParseKnown(t *testing.T) {
	for _, k := range []struct {
		s    string
		want api.GeneralName
	}{
		{"mail:ann@example.org", mailName("ann@example.org")}, {`mail:a\2bb@c`, mailName("a+b@c")}, {`mail:\23\21\24\25\26\2a\3d\5e\60\7b\7c\7d\7e@c`, mailName("#!$%&*=^`{|}~@c")}, {"mail:b", mailName("b")}, {"mail:.b", mailName(".b")},
		{"dns:Example.org", dnsName("Example.org")}, {`dns:\2a.a.b`, dnsName("*.a.b")}, {"dns:", dnsName("")}, {"dns:a", dnsName("a")},
		{"dir:", dirName(api.Name{})}, {"dir:CN=Web Server,O=Example", dirName(name(cn("Web Server"), []api.Attribute{attr(api.OIDOrganization, "Example")}))}, {`dir:O=b+2.5.4.3=a\2cb`, dirName(name([]api.Attribute{attr("2.5.4.10", "b"), attr("2.5.4.3", "a,b")}))},
		{"ip:7f000001", ipName(home)}, {"ip:0a000000ff000000", ipName(ten)}, {"ip:20010db8000000000000000000000001", ipName(six)}, {"ip:" + strings.Repeat("0", 64), ipName(any16)}, {"ip:61626364", ipName("abcd")}, {"ip:abcdef09", ipName("\xab\xcd\xef\x09")},
	} {
		if g, err := gname.Parse(k.s); !identical(g, k.want) || err != api.OK {
			t.Errorf("Parse(%q) is %s, %d, want %s", k.s, show(g), err, show(k.want))
		}
		checkParse(t, k.s)
	}
}

// TestParseErrors: P9.5, texts of each error, and which one comes first.
func TestParseErrors(t *testing.T) {
	for _, k := range []struct {
		s    string
		want api.Errno
	}{
		{"", api.ErrSyntax}, {":", api.ErrSyntax}, {"mail", api.ErrSyntax}, {"dns", api.ErrSyntax}, {"dir", api.ErrSyntax}, {"ip", api.ErrSyntax}, {"a.b", api.ErrSyntax}, {"CN=a", api.ErrSyntax}, {"7f000001", api.ErrSyntax}, // no word
		{"Mail:a@b", api.ErrSyntax}, {"MAIL:a@b", api.ErrSyntax}, {"DNS:a", api.ErrSyntax}, {"Dns:a", api.ErrSyntax}, {"dnS:a", api.ErrSyntax}, {"DIR:", api.ErrSyntax}, {"dIr:CN=a", api.ErrSyntax}, {"IP:7f000001", api.ErrSyntax}, {"Ip:7f000001", api.ErrSyntax}, // other letters
		{"email:a@b", api.ErrSyntax}, {"host:a", api.ErrSyntax}, {"uri:a", api.ErrSyntax}, {"name:CN=a", api.ErrSyntax}, {"ipv4:7f000001", api.ErrSyntax}, {"ip4:7f000001", api.ErrSyntax}, {"d:a", api.ErrSyntax}, {"i:7f000001", api.ErrSyntax}, {"m:a@b", api.ErrSyntax}, {"dn:a", api.ErrSyntax}, {"ai:a@b", api.ErrSyntax}, // other words
		{" dns:a", api.ErrSyntax}, {"dns :a", api.ErrSyntax}, {"dns=a", api.ErrSyntax}, {"dns;a", api.ErrSyntax}, {"dnsa", api.ErrSyntax}, {"dns.a", api.ErrSyntax}, {"\x00dns:a", api.ErrSyntax}, {"xdns:a", api.ErrSyntax}, {"dnsdns:a", api.ErrSyntax}, {"2:a", api.ErrSyntax}, {"1:a@b", api.ErrSyntax},

		{"mail:", api.ErrName}, {"dns:", api.OK}, {"dir:", api.OK}, {"ip:", api.ErrName}, // nothing behind the word
		{"mail:a+b@c", api.ErrSyntax}, {"dns:*.a.b", api.ErrSyntax}, {`dns:\61`, api.ErrSyntax}, {`dns:\2A.a.b`, api.ErrSyntax}, {`dns:\2`, api.ErrSyntax}, {`dns:\`, api.ErrSyntax}, {`dns:\2g`, api.ErrSyntax}, {`mail:a\2Bb@c`, api.ErrSyntax}, {`mail:a\40b`, api.ErrSyntax}, {"mail:a,b", api.ErrSyntax}, {"dns:é", api.ErrSyntax}, {"dns:a\n", api.ErrSyntax}, {"dns:a\x00", api.ErrSyntax}, {`dns:a..b\`, api.ErrSyntax}, // no escapes
		{"ip:7F000001", api.ErrSyntax}, {"ip:7f00000", api.ErrSyntax}, {"ip:7f0000011", api.ErrSyntax}, {"ip:0", api.ErrSyntax}, {"ip:g0", api.ErrSyntax}, {"ip:7f 00 00 01", api.ErrSyntax}, {"ip:127.0.0.1", api.ErrSyntax}, {`ip:\7f\00\00\01`, api.ErrSyntax}, {"ip:0x7f000001", api.ErrSyntax}, {"ip:7f000001 ", api.ErrSyntax}, {"ip:7f00000\n", api.ErrSyntax}, {"ip:::1", api.ErrSyntax}, {"ip:ABCDEF00", api.ErrSyntax}, // no digits
		{"dir:a", api.ErrSyntax}, {"dir:CN=a,", api.ErrSyntax}, {"dir:cn=a", api.ErrSyntax}, {"dir: CN=a", api.ErrSyntax}, {"dir:CN=a b*", api.ErrSyntax}, {"dir:,", api.ErrSyntax}, {"dir:dir:CN=a", api.ErrSyntax}, {"dir:1=a", api.ErrSyntax}, // no names
		{"dir:CN=", api.ErrString}, {"dir:CN=a+CN=b", api.ErrDuplicate}, {"dir:CN=" + strings.Repeat("x", api.MaxValue+1), api.ErrLimit}, {"dir:" + strings.Repeat("CN=a,", api.MaxRDNs) + "CN=a", api.ErrLimit}, {"dir:CN=,X=a", api.ErrSyntax}, // names with errors
		{"mail:a@b@c", api.ErrName}, {"mail:a b@c", api.ErrName}, {`mail:\2a.a.b`, api.ErrName}, {"mail:..b", api.ErrName}, {"mail:a@.b", api.ErrName}, {"mail:mail:a@b", api.ErrName}, {"dns:a..b", api.ErrName}, {"dns:.a", api.ErrName}, {`dns:\2a.a`, api.ErrName}, {`dns:\2a`, api.ErrName}, {"dns:a@b", api.ErrName}, {"dns:dns:a", api.ErrName}, {"dns:" + long(128), api.OK}, {"dns:" + long(129), api.ErrName}, // neither names nor bases
		{"ip:7f0000", api.ErrName}, {"ip:7f00000100", api.ErrName}, {"ip:0a000001ff000000", api.ErrName}, {"ip:0a000000ff00ff00", api.ErrName}, {"ip:" + strings.Repeat("0", 62), api.ErrName}, {"ip:" + strings.Repeat("0", 66), api.ErrName}, {"ip:" + strings.Repeat("f", 64), api.OK}, {"ip:00", api.ErrName},
	} {
		g, err := gname.Parse(k.s)
		if err != k.want || err != api.OK && !none(g) {
			t.Errorf("Parse(%.200q) is %s, %d, want error %d", k.s, show(g), err, k.want)
		}
		checkParse(t, k.s)
	}
}

// TestParseWords: P9.5, each word before what is behind each of the others, and words that are cut off, longer, or changed in one byte.
func TestParseWords(t *testing.T) {
	rests := []string{"", "a", "a@b", "a.b", `\2a.a.b`, "7f000001", "0a000000ff000000", "ab", "CN=a", "CN=", "O=a+C=b", ":", "0"}
	for _, word := range []string{"mail:", "dns:", "dir:", "ip:"} {
		for _, rest := range rests {
			checkParse(t, word+rest)
			for i := range len(word) {
				if err := checkParse(t, word[:i]+word[i+1:]+rest); err != api.ErrSyntax && rest != ":" {
					t.Errorf("a text with %q has the error %d", word[:i]+word[i+1:], err)
				}
				for c := range 256 {
					changed := word[:i] + string([]byte{byte(c)}) + word[i+1:]
					if err := checkParse(t, changed+rest); err != api.ErrSyntax && changed != word {
						t.Errorf("a text with %q has the error %d", changed, err)
					}
				}
			}
		}
	}
}

// TestParseBytes: P9.5, every byte behind each word, as it is, escaped, and in hexadecimal, with the digits in both cases.
func TestParseBytes(t *testing.T) {
	for c := range 256 {
		b := string([]byte{byte(c)})
		digits := hex.EncodeToString([]byte(b))
		for _, s := range []string{b, text.Escape(b), `\` + digits, `\` + strings.ToUpper(digits), digits, strings.ToUpper(digits)} {
			for _, word := range []string{"mail:", "dns:", "dir:", "ip:"} {
				for _, rest := range []string{"", "@b", ".b", "000000", "000000ff000000", "00000080000000"} {
					checkParse(t, word+s+rest)
					checkParse(t, word+"a"+s+rest)
				}
			}
		}
	}
}

// TestParseDamaged: P9.5, what Format writes for names and bases, with something missing, added, or changed.
func TestParseDamaged(t *testing.T) {
	r := rand.New(rand.NewSource(8))
	seen := map[api.Errno]int{}
	for range 20000 {
		s, err := gname.Format(randomName(r, r.Intn(2) == 0))
		if err != api.OK {
			t.Fatal(err)
		}
		i := r.Intn(len(s))
		part := []string{":", "@", ".", "*", `\`, `\2a`, `\2A`, ",", "+", "=", "0", "f", "F", "a", "A", " ", "\x00", "\xff"}[r.Intn(18)]
		switch r.Intn(4) {
		case 0:
			s = s[:i] + s[i+1:]
		case 1:
			s = s[:i] + part + s[i:]
		case 2:
			s = s[:i] + part + s[i+1:]
		}
		seen[checkParse(t, s)]++
	}
	for _, err := range []api.Errno{api.OK, api.ErrSyntax, api.ErrName} {
		if seen[err] < 500 {
			t.Errorf("only %d texts with the error %d", seen[err], err)
		}
	}
}

// TestParseHuge: P9.5 and R1, texts that are much longer than the limits.
func TestParseHuge(t *testing.T) {
	for _, word := range []string{"mail:", "dns:", "dir:", "ip:", ""} {
		for _, part := range []string{"a", "0", `\2a`, `\`, "a.", "a@", "CN=a,", ":"} {
			checkParse(t, word+strings.Repeat(part, 1<<17))
		}
	}
}
