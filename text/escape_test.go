package text_test

import (
	"encoding/hex"
	"fmt"
	"math/rand"
	"regexp"
	"strings"
	"testing"

	"certpath/text"
)

const plain = letters + digits + " '()-./:?@_"

// modelEscape is P6.3 for Escape.
func modelEscape(s string) string {
	var out strings.Builder
	for i := range len(s) {
		if strings.Contains(plain, s[i:i+1]) {
			out.WriteString(s[i : i+1])
		} else {
			fmt.Fprintf(&out, "\\%02x", s[i])
		}
	}
	return out.String()
}

var digitPair = regexp.MustCompile(`\\[0-9a-fA-F]{2}`)

// modelUnescape is P6.3 for Unescape: all pairs of digits are read, in capital letters too, and the result counts if its Escape is s.
func modelUnescape(s string) (string, bool) {
	b := digitPair.ReplaceAllFunc([]byte(s), func(pair []byte) []byte {
		c, _ := hex.DecodeString(string(pair[1:]))
		return c
	})
	if modelEscape(string(b)) != s {
		return "", false
	}
	return string(b), true
}

// checkEscape compares Escape with P6.3, and Unescape with it.
func checkEscape(t *testing.T, s string) {
	t.Helper()
	want := modelEscape(s)
	e := text.Escape(s)
	if e != want {
		t.Fatalf("Escape(%.60q) is %.60q, want %.60q", s, e, want)
	}
	if again, ok := text.Unescape(e); again != s || !ok {
		t.Fatalf("Unescape(%.60q) is %.60q, %v, want %.60q", e, again, ok, s)
	}
}

// checkUnescape compares Unescape with P6.3.
func checkUnescape(t *testing.T, s string) {
	t.Helper()
	want, wantOK := modelUnescape(s)
	b, ok := text.Unescape(s)
	if b != want || ok != wantOK {
		t.Fatalf("Unescape(%.60q) is %.60q, %v, want %.60q, %v", s, b, ok, want, wantOK)
	}
	if ok && text.Escape(b) != s {
		t.Fatalf("Unescape accepts %.60q, but Escape writes %.60q", s, text.Escape(b))
	}
}

// TestEscapeKnown: P6.3, strings with their Escapes, which are written out here; the first one is the example of the chapter.
func TestEscapeKnown(t *testing.T) {
	for _, k := range []struct{ s, e string }{
		{"a,b", `a\2cb`}, {"", ""}, {"Example Corp", "Example Corp"}, {" ", " "}, {"  a  ", "  a  "}, {plain, plain},
		{`\`, `\5c`}, {`\\`, `\5c\5c`}, {`\2c`, `\5c2c`}, {"\x00", `\00`}, {"\x0a", `\0a`}, {"\t\n\r", `\09\0a\0d`}, {"\x7f", `\7f`}, {"\x80", `\80`}, {"\xff", `\ff`}, {"\xab\xcd\xef", `\ab\cd\ef`},
		{`!"#$%&`, `\21\22\23\24\25\26`}, {"*+,", `\2a\2b\2c`}, {";<=>", `\3b\3c\3d\3e`}, {`[\]^`, `\5b\5c\5d\5e`}, {"`", `\60`}, {"{|}~", `\7b\7c\7d\7e`},
		{"é", `\c3\a9`}, {"\ufffd", `\ef\bf\bd`}, {"a\xc3", `a\c3`}, {"a=b+c=d", `a\3db\2bc\3dd`}, {"user@example.com", "user@example.com"}, {"http://a_b.example/?x", "http://a_b.example/?x"},
	} {
		if e := text.Escape(k.s); e != k.e {
			t.Errorf("Escape(%q) is %q, want %q", k.s, e, k.e)
		}
		if s, ok := text.Unescape(k.e); s != k.s || !ok {
			t.Errorf("Unescape(%q) is %q, %v, want %q", k.e, s, ok, k.s)
		}
	}
}

// TestEscapeBytes: P6.3, every byte, alone and among others, and every two bytes.
func TestEscapeBytes(t *testing.T) {
	checkEscape(t, bytes())
	for c := range 256 {
		e := text.Escape(one(c))
		if strings.Contains(plain, one(c)) {
			if e != one(c) {
				t.Errorf("Escape(%q) is %q", one(c), e)
			}
		} else if e != `\`+hex.EncodeToString([]byte{byte(c)}) {
			t.Errorf("Escape(%q) is %q", one(c), e)
		}
		checkEscape(t, "a"+one(c)+"b")
		for d := range 256 {
			checkEscape(t, one(c)+one(d))
		}
	}
}

// TestEscapeRandom: P6.3, random bytes, and long strings.
func TestEscapeRandom(t *testing.T) {
	r := rand.New(rand.NewSource(3))
	for range 20000 {
		b := make([]byte, r.Intn(40))
		for i := range b {
			b[i] = byte(r.Intn(256) >> r.Intn(2))
		}
		checkEscape(t, string(b))
	}
	for _, s := range []string{strings.Repeat("a", 100000), strings.Repeat(",", 100000), strings.Repeat("a,", 50000), strings.Repeat("\xff", 100000)} {
		checkEscape(t, s)
	}
}

// TestUnescapeInvalid: P6.3, texts that are not the Escape of any string.
func TestUnescapeInvalid(t *testing.T) {
	for _, s := range []string{
		`\`, `\2`, `\c`, `a\`, `a\2`, `\2c\`, `\2c\2`, `\\`, `\\\`, `\\2c`, `\2\2c`, `\5c\`, `\ff\f`, strings.Repeat("a", 100000) + `\2`, // fewer than two digits
		`\2C`, `\FF`, `\fF`, `\Ff`, `\0A`, `\A0`, `\5C`, `\aB`, `\Ab`, `\7F`, `\7E`, `\C3\A9`, // capital digits
		`\gg`, `\0g`, `\g0`, `\2 `, `\ 2`, `\ 2c`, `\  `, `\-1`, `\+1`, `\0x`, `\x2c`, `\u002c`, `\n`, `\nn`, `\,`, `\,,`, `\2,`, `\2:`, `\2/`, `\2@`, "\\2`", `\:2`, `\/2`, `\@2`, "\\`2", `\2G`, `\G2`, "\\2\x00", "\\\x002", "\\\xff\xff", "\\2\xff", "\\\uff12\uff12", "\\\u0662c", // no digits
		`\61`, `\7a`, `\41`, `\5a`, `\30`, `\39`, `\20`, `\27`, `\28`, `\29`, `\2d`, `\2e`, `\2f`, `\3a`, `\3f`, `\40`, `\5f`, `a\62c`, `\2c\61`, `\61\2c`, // bytes that are left as they are
		",", "a,b", "!", `"`, "#", "$", "%", "&", "*", "+", ";", "<", "=", ">", "[", "]", "^", "`", "{", "|", "}", "~", "\x00", "\x1f", "\t", "\n", "a\n", "\x7f", "\x80", "\xff", "é", "\ufffd", "\u00a0", `\2c,`, `,\2c`, // bytes that are not
	} {
		if b, ok := text.Unescape(s); b != "" || ok {
			t.Errorf("Unescape(%.60q) is %q, %v, want an empty string and false", s, b, ok)
		}
	}
}

// TestUnescapeShort: P6.3, every text of up to two bytes, every two bytes behind a backslash, and every text of up to five of the bytes that matter.
func TestUnescapeShort(t *testing.T) {
	for i := range 256 {
		checkUnescape(t, one(i))
		for j := range 256 {
			for _, before := range []string{"", `\`, `\2`, `a\`, `\2c\`, `\\`} {
				checkUnescape(t, before+one(i)+one(j))
			}
		}
	}
	each([]string{`\`, "2", "7", "0", "c", "f", "a", "C", "g", ",", "\xff"}, 5, func(s string) { checkUnescape(t, s) })
}

// TestUnescapePairs: P6.3, every pair of digits, in small and in capital letters: it is read exactly if it is small and its byte is one that Escape does not leave as it is.
func TestUnescapePairs(t *testing.T) {
	for c := range 256 {
		for _, form := range []string{"\\%02x", "\\%02X"} {
			s := fmt.Sprintf(form, c)
			want, wantOK := "", false
			if !strings.Contains(plain, one(c)) && s == strings.ToLower(s) {
				want, wantOK = one(c), true
			}
			if b, ok := text.Unescape(s); b != want || ok != wantOK {
				t.Errorf("Unescape(%q) is %q, %v, want %q, %v", s, b, ok, want, wantOK)
			}
		}
	}
}

// TestUnescapeDamaged: P6.3, Escapes in which a byte is another one, is missing, or is added, and Escapes that are cut off.
func TestUnescapeDamaged(t *testing.T) {
	r := rand.New(rand.NewSource(4))
	for range 300 {
		b := make([]byte, r.Intn(8))
		for i := range b {
			b[i] = byte(r.Intn(256))
		}
		s := text.Escape(string(b))
		for i := range len(s) + 1 {
			checkUnescape(t, s[:i])
			checkUnescape(t, s[i:])
			for _, c := range []string{`\`, "0", "2", "9", ":", "/", "a", "c", "f", "g", "A", "F", "G", "@", "`", ",", " ", "\x00", "\x80", "\xff"} {
				checkUnescape(t, s[:i]+c+s[i:])
				if i < len(s) {
					checkUnescape(t, s[:i]+c+s[i+1:])
				}
			}
			if i < len(s) {
				checkUnescape(t, s[:i]+s[i+1:])
			}
		}
	}
}
