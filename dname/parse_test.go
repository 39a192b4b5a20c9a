package dname_test

import (
	"math/rand"
	"regexp"
	"strings"
	"testing"

	"certpath/api"
	"certpath/dname"
	"certpath/oid"
	"certpath/text"
)

// form is P7.7 as an expression, apart from which object identifiers are valid and which escapes are those of text.Escape.
var form = regexp.MustCompile(`^(?:` + assignment + `(?:[+,]` + assignment + `)*)?$`)

const assignment = `(?:CN|C|L|O|OU|DC|E|[0-9.]+)=(?:[A-Za-z0-9 '()\-./:?@_]|\\[0-9a-f]{2})*`

// parts are a sign before an assignment, its type, and its value.
var parts = regexp.MustCompile(`([+,])([^+,=]*)=([^+,=]*)`)

// modelParse is P7.7, step by step.
func modelParse(s string) (api.Name, api.Errno) {
	if !form.MatchString(s) {
		return api.Name{}, api.ErrSyntax
	}
	var n api.Name
	if s == "" {
		return n, api.OK
	}
	for _, m := range parts.FindAllStringSubmatch(","+s, -1) {
		sign, id := m[1], m[2]
		for long, word := range short {
			if word == id {
				id = long
			}
		}
		value, ok := text.Unescape(m[3])
		if !ok || !oid.Valid(id) {
			return api.Name{}, api.ErrSyntax
		}
		kind := api.TagUTF8
		if id == "0.9.2342.19200300.100.1.25" || id == "1.2.840.113549.1.9.1" {
			kind = api.TagIA5
		} else if text.Valid(api.TagPrintable, value) {
			kind = api.TagPrintable
		}
		if sign == "," {
			n.RDNs = append(n.RDNs, nil)
		}
		last := &n.RDNs[len(n.RDNs)-1]
		*last = append(*last, api.Attribute{Type: id, Kind: kind, Value: value})
	}
	if err := modelCheck(n); err != api.OK {
		return api.Name{}, err
	}
	return n, api.OK
}

// checkParse compares Parse with P7.7, and returns its results.
func checkParse(t *testing.T, s string) (api.Name, api.Errno) {
	t.Helper()
	want, wantErr := modelParse(s)
	n, err := dname.Parse(s)
	if !same(n, want) || err != wantErr {
		t.Fatalf("Parse(%.300q) is %+v, %d, want %+v, %d", s, n, err, want, wantErr)
	}
	return n, err
}

// TestParseKnown: P7.7, texts that Format does not write: other orders of attributes, and object identifiers that have a short type.
func TestParseKnown(t *testing.T) {
	for _, k := range []struct {
		s string
		n api.Name
	}{
		{"O=a+CN=b", name(rel(attr("2.5.4.10", "a"), attr("2.5.4.3", "b")))},
		{"CN=abc+C=ab+L=a", name(rel(attr("2.5.4.3", "abc"), attr("2.5.4.6", "ab"), attr("2.5.4.7", "a")))},
		{"2.5.4.3=a", name(cn("a"))}, {"2.5.4.6=a", name(rel(attr(api.OIDCountry, "a")))}, {"2.5.4.7=a", name(rel(attr(api.OIDLocality, "a")))}, {"2.5.4.10=a", name(rel(attr(api.OIDOrganization, "a")))}, {"2.5.4.11=a", name(rel(attr(api.OIDUnit, "a")))},
		{"0.9.2342.19200300.100.1.25=a", name(rel(ia5(api.OIDDomain, "a")))}, {"1.2.840.113549.1.9.1=a", name(rel(ia5(api.OIDMail, "a")))}, {`1.2.840.113549.1.9.1=\2a@b`, name(rel(ia5(api.OIDMail, "*@b")))},
		{"2.5.4.3=a+2.5.4.6=b,2.5.4.10=c", name(rel(attr("2.5.4.3", "a"), attr("2.5.4.6", "b")), rel(attr("2.5.4.10", "c")))},
		{"CN=a,2.5.4.3=a", name(cn("a"), cn("a"))},
		{"0.0=a,2.999=b,1.39.2147483647=c", name(rel(attr("0.0", "a")), rel(attr("2.999", "b")), rel(attr("1.39.2147483647", "c")))},
		{"1.2.3.4.5.6.7.8.9.10.11.12=a", name(rel(attr("1.2.3.4.5.6.7.8.9.10.11.12", "a")))},
	} {
		if n, err := dname.Parse(k.s); !same(n, k.n) || err != api.OK {
			t.Errorf("Parse(%q) is %+v, %d, want %+v", k.s, n, err, k.n)
		}
		checkParse(t, k.s)
	}
}

// TestParseOrders: P7.7, the attributes of a relative name in every order; they keep it.
func TestParseOrders(t *testing.T) {
	for _, o := range orders(rel(attr("2.5.4.3", "abcd"), utf8("2.5.4.5", "a_"), ia5(api.OIDMail, "ab"), attr("2.5.4.10", "a"))) {
		var parts []string
		for _, a := range o {
			parts = append(parts, format(t, name(rel(a))))
		}
		s := "CN=z," + strings.Join(parts, "+") + ",C=a"
		want := name(cn("z"), o, rel(attr(api.OIDCountry, "a")))
		if n, err := dname.Parse(s); !same(n, want) || err != api.OK {
			t.Errorf("Parse(%q) is %+v, %d, want %+v", s, n, err, want)
		}
	}
}

// TestParseKinds: P7.7, the kind of every byte that a string may have, for every type.
func TestParseKinds(t *testing.T) {
	for _, id := range types() {
		for c := range 256 {
			value := string([]byte{byte(c)})
			s := id + "=" + text.Escape(value)
			var want api.Name
			wantErr := api.OK
			mail := id == api.OIDDomain || id == api.OIDMail
			switch {
			case c < 32 || c > 126:
				wantErr = api.ErrString
			case mail:
				want = name(rel(ia5(id, value)))
			case strings.Contains("ABCDEFGHIJKLMNOPQRSTUVWXYZabcdefghijklmnopqrstuvwxyz0123456789 '()+,-./:=?", value):
				want = name(rel(attr(id, value)))
			default:
				want = name(rel(utf8(id, value)))
			}
			if n, err := dname.Parse(s); !same(n, want) || err != wantErr {
				t.Errorf("Parse(%q) is %+v, %d, want %+v, %d", s, n, err, want, wantErr)
			}
		}
		if _, err := dname.Parse(id + `=\c3\a9`); (err == api.ErrString) != (id == api.OIDDomain || id == api.OIDMail) {
			t.Errorf("Parse of é for the type %s returns %d", id, err)
		}
	}
}

// noForm are texts that do not have the form of P7.6, each alone.
var noForm = []string{
	",", ",,", "+", "++", "+,", "=", "==", "=a", "=CN", "a", "CN", "CN ", " ", "CN a", "CN:a", "2.5.4.3", // parts without a type or an equals sign
	",CN=a", "CN=a,", "CN=a,,O=b", "CN=a+", "+CN=a", "CN=a++O=b", "CN=a,+O=b", "CN=a+,O=b", "CN=a,O", "CN=a+O", "CN,O=a", "CN+O=a", "CN=a,=b", "CN=a+=b", // empty parts
	"cn=a", "Cn=a", "cN=a", "c=a", "l=a", "o=a", "ou=a", "Ou=a", "oU=a", "dc=a", "Dc=a", "e=a", // small letters
	"S=a", "ST=a", "SN=a", "UID=a", "T=a", "G=a", "A=a", "N=a", "D=a", "U=a", "CNN=a", "CO=a", "COU=a", "CCN=a", "EMAIL=a", "emailAddress=a", "STREET=a", "CommonName=a", "OID=a", "OID.2.5.4.3=a", "oid.2.5.4.3=a", // unknown short types
	" CN=a", "CN =a", "CN=a, O=b", "CN=a ,O =b", "CN=a,O=b, C=c", "CN=a + O=b", " 2.5.4.3=a", "2.5.4.3 =a", "\tCN=a", "CN\x00=a", "CN=a\n", "CN=a\t", "\"CN\"=a", "\\43N=a", // spaces where there are none
	"2=a", "2.=a", ".2=a", ".=a", "..=a", "2..5=a", "2.5.4.3.=a", ".2.5.4.3=a", "2.5.4.03=a", "02.5.4.3=a", "2.5.4.+3=a", "2.5.4.-3=a", "2.5.4.3a=a", "2.5.4.x=a", "1.40=a", "0.40=a", "3.1=a", "2.5.4.2147483648=a", "2.5.4.99999999999999999999=a", "1.2.3.4.5.6.7.8.9.10.11.12.13=a", "-1.2=a", "2,5=a", "2.5.4.\u0663=a", // object identifiers that are not valid
	"CN=a=b", "CN==", "CN==a", "CN=a=", "CN=a;O=b", "CN=a/O=b", "CN=\"a\"", "CN=#1301", "CN=a*b", "CN=<a>", "CN=é", "CN=\xff", "CN=a\x7f", "CN=\x00", // what should have been escaped
	`CN=\`, `CN=a\`, `CN=\2`, `CN=a\2`, `CN=\2C`, `CN=\5C`, `CN=\,`, `CN=a\,b`, `CN=\+`, `CN=\=`, `CN=\\`, `CN=\61`, `CN=\20a`, `CN=\2e`, `CN=\40`, `CN=\5f`, `CN=\zz`, `CN=\2g`, `CN=\ 2c`, `CN=\C3\A9`, `CN=\2c\`, `CN=\u00e9`, `CN=\2,O=b`, `CN=\,2c`, // what text.Unescape refuses
	`CN\3da`, `CN=a\2cO=b`, `CN=a\2bO=b`, `2\2e5=a`,
}

// TestParseSyntax: P7.7, texts without the form, alone, behind and before others, and in texts that Check would refuse.
func TestParseSyntax(t *testing.T) {
	for _, s := range noForm {
		for _, whole := range []string{
			s, "C=x," + s, s + ",C=x", "C=x+" + s, s + "+C=x",
			"CN=," + s, s + ",CN=", "CN=x+CN=y," + s, s + "+L=x+L=y", strings.Repeat("CN=a,", 9) + s, strings.Repeat("CN=a+", 5) + s, `CN=\00,` + s, "CN=" + strings.Repeat("a", 65) + "," + s,
		} {
			if n, err := dname.Parse(whole); err != api.ErrSyntax || !none(n) {
				t.Errorf("Parse(%q) is %+v, %d, want ErrSyntax", whole, n, err)
			}
			checkParse(t, whole)
		}
	}
}

// TestParseRefused: P7.7, texts of the form that denote names which Check refuses.
func TestParseRefused(t *testing.T) {
	for _, c := range []struct {
		s    string
		want api.Errno
	}{
		{"CN=", api.ErrString}, {"E=", api.ErrString}, {"1.2=", api.ErrString}, {"CN=a,O=", api.ErrString}, {"CN=,O=a", api.ErrString}, {"CN=a+O=", api.ErrString}, {"CN=+O=a", api.ErrString},
		{`CN=\00`, api.ErrString}, {`CN=a\1fb`, api.ErrString}, {`CN=\7f`, api.ErrString}, {`CN=\ff`, api.ErrString}, {`CN=\c3`, api.ErrString}, {`CN=\c0\80`, api.ErrString}, {`CN=\ed\a0\80`, api.ErrString},
		{`DC=\c3\a9`, api.ErrString}, {`E=\c3\a9@b`, api.ErrString}, {`DC=\7f`, api.ErrString}, {`0.9.2342.19200300.100.1.25=\c3\a9`, api.ErrString}, {`E=\00`, api.ErrString},
		{"CN=" + strings.Repeat("a", 65), api.ErrLimit}, {"CN=" + strings.Repeat(`\2c`, 65), api.ErrLimit}, {"CN=" + strings.Repeat(`\c3\a9`, 33), api.ErrLimit}, {"E=" + strings.Repeat("a", 65), api.ErrLimit}, {"CN=" + strings.Repeat(" ", 65), api.ErrLimit}, {"CN=" + strings.Repeat("a", 100000), api.ErrLimit},
		{"CN=a+CN=b", api.ErrDuplicate}, {"CN=a+CN=a", api.ErrDuplicate}, {"CN=a+2.5.4.3=b", api.ErrDuplicate}, {"2.5.4.3=a+CN=b", api.ErrDuplicate}, {"C=a,CN=a+C=b+CN=c", api.ErrDuplicate}, {"DC=a+O=b+0.9.2342.19200300.100.1.25=c", api.ErrDuplicate},
		{"CN=a,CN=a,CN=a,CN=a,CN=a,CN=a,CN=a,CN=a,CN=a", api.ErrLimit}, {"CN=a" + strings.Repeat(",CN=a", 100000), api.ErrLimit}, {strings.Repeat("CN=,", 8) + "CN=", api.ErrLimit}, {"CN=a+C=a+L=a+O=a+OU=a", api.ErrLimit}, {"CN=a+CN=a+CN=a+CN=a+CN=a", api.ErrLimit}, {"CN=a+C=+L=a+O=a+OU=a", api.ErrLimit}, {"CN=a,CN=a+C=a+L=a+O=a+OU=a", api.ErrLimit},
		{"CN=,CN=a+CN=b", api.ErrString}, {"CN=a+CN=b,CN=", api.ErrDuplicate}, {"CN=a+CN=", api.ErrString}, {"CN=+CN=a", api.ErrString}, {"CN=a+CN=" + strings.Repeat("a", 65), api.ErrLimit}, {`CN=` + strings.Repeat("a", 65) + `\00`, api.ErrString},
	} {
		if n, err := dname.Parse(c.s); err != c.want || !none(n) {
			t.Errorf("Parse(%.100q) is %+v, %d, want error %d", c.s, n, err, c.want)
		}
		checkParse(t, c.s)
	}
}

// TestParseChanged: P7.7, every byte of a text is another one, is missing, or is added.
func TestParseChanged(t *testing.T) {
	for _, s := range []string{"", "CN=a", `CN=Web Server+2.5.4.5=1,O=a\2cb,DC=example,E=a@b`, `1.2=\c3\a9,OU=\5c+L= `} {
		for i := range len(s) + 1 {
			for c := range 256 {
				b := string([]byte{byte(c)})
				checkParse(t, s[:i]+b+s[i:])
				if i < len(s) {
					checkParse(t, s[:i]+b+s[i+1:])
				}
			}
			checkParse(t, s[:i])
			checkParse(t, s[i:])
			if i < len(s) {
				checkParse(t, s[:i]+s[i+1:])
			}
		}
	}
}

// TestParseRandom: P7.7, random texts of the parts that matter.
func TestParseRandom(t *testing.T) {
	r := rand.New(rand.NewSource(6))
	words := []string{"CN", "C", "L", "O", "OU", "DC", "E", "2.5.4.3", "2.5.4.5", "1.2", "0.9.2342.19200300.100.1.25", "cn", "1.40", "", "X"}
	values := []string{"a", "b c", `\2c`, `\2a`, `\c3\a9`, "@", "", `\00`, `\61`, `\ff`, "=", strings.Repeat("a", 64), "a "}
	seen := map[api.Errno]int{}
	for range 50000 {
		var b strings.Builder
		for i := range r.Intn(12) {
			if i > 0 || r.Intn(50) == 0 {
				b.WriteString([]string{",", "+", ","}[r.Intn(3)])
			}
			word := words[r.Intn(10)]
			if r.Intn(40) == 0 {
				word = words[r.Intn(len(words))]
			}
			b.WriteString(word)
			if r.Intn(100) > 0 {
				b.WriteString("=")
			}
			b.WriteString(values[r.Intn(5)])
			if r.Intn(20) == 0 {
				b.WriteString(values[r.Intn(len(values))])
			}
		}
		_, err := checkParse(t, b.String())
		seen[err]++
	}
	seenEnough(t, seen, api.OK, api.ErrSyntax, api.ErrLimit, api.ErrString, api.ErrDuplicate)
}

// TestParseNew: R3, results of Parse share no memory with later ones, and the relative names of one share none with each other.
func TestParseNew(t *testing.T) {
	for _, s := range []string{"", "CN=a", "CN=a+O=b,C=c", "CN=a+O=b+C=c,L=d+E=e+DC=f", "CN=a,CN=b,CN=c,CN=d,CN=e"} {
		first, _ := dname.Parse(s)
		before := clone(first)
		second, _ := dname.Parse(s)
		overwrite(second)
		if !same(first, before) {
			t.Errorf("Parse(%q): a result has become %+v because another one was changed", s, first)
		}
		if third, _ := dname.Parse(s); !same(third, before) {
			t.Errorf("Parse(%q) is %+v after a result was changed", s, third)
		}
		checkApart(t, first)
	}
}
