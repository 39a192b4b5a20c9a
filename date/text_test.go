package date_test

import (
	"fmt"
	"math/rand"
	"regexp"
	"slices"
	"strings"
	"testing"

	"certpath/api"
	"certpath/date"
)

var formText = regexp.MustCompile(`^([0-9]{4})-([0-9]{2})-([0-9]{2}) ([0-9]{2}):([0-9]{2}):([0-9]{2})$`)

// checkFormat compares Format with P5.4, and Parse with it.
func checkFormat(t *testing.T, at int) {
	t.Helper()
	want := moment(at).Format("2006-01-02 15:04:05")
	s, err := date.Format(at)
	if s != want || err != api.OK {
		t.Fatalf("Format(%d) is %q, %d, want %q", at, s, err, want)
	}
	if again, err := date.Parse(s); again != at || err != api.OK {
		t.Fatalf("Parse(%q) is %d, %d, want %d", s, again, err, at)
	}
}

// checkParse compares Parse with P5.4.
func checkParse(t *testing.T, s string) {
	t.Helper()
	want, wantErr := 0, api.ErrTime
	if d, ok := parts(formText, s); ok {
		if at, ok := modelSeconds(d); ok {
			want, wantErr = at, api.OK
		}
	}
	at, err := date.Parse(s)
	if at != want || err != wantErr {
		t.Fatalf("Parse(%.60q) is %d, %d, want %d, %d", s, at, err, want, wantErr)
	}
	if err != api.OK {
		return
	}
	if again, err := date.Format(at); again != s || err != api.OK {
		t.Fatalf("Parse accepts %q, but Format writes %q, %d", s, again, err)
	}
}

// TestFormatKnown: P5.4, texts that are written out here.
func TestFormatKnown(t *testing.T) {
	for _, k := range []struct {
		t int
		s string
	}{
		{0, "1950-01-01 00:00:00"}, {1, "1950-01-01 00:00:01"}, {86400 * 31, "1950-02-01 00:00:00"}, {86400*31 - 1, "1950-01-31 23:59:59"}, {365*day - 1, "1950-12-31 23:59:59"},
		{1577836799, "1999-12-31 23:59:59"}, {1577836800, "2000-01-01 00:00:00"}, {1582934400 + 12*3600 + 34*60 + 56, "2000-02-29 12:34:56"},
		{3155759999, "2049-12-31 23:59:59"}, {3155760000, "2050-01-01 00:00:00"}, {4738694399, "2100-02-28 23:59:59"}, {4738694400, "2100-03-01 00:00:00"},
		{api.MaxTime - 1, "9999-12-31 23:59:58"}, {api.MaxTime, "9999-12-31 23:59:59"},
	} {
		if s, err := date.Format(k.t); s != k.s || err != api.OK {
			t.Errorf("Format(%d) is %q, %d, want %q", k.t, s, err, k.s)
		}
		if at, err := date.Parse(k.s); at != k.t || err != api.OK {
			t.Errorf("Parse(%q) is %d, %d, want %d", k.s, at, err, k.t)
		}
	}
}

// TestFormatRange: P5.4, numbers that are no times.
func TestFormatRange(t *testing.T) {
	for _, at := range outside {
		if s, err := date.Format(at); s != "" || err != api.ErrRange {
			t.Errorf("Format(%d) is %q, %d, want ErrRange", at, s, err)
		}
	}
}

// TestFormat: P5.4, times about ends, and random ones.
func TestFormat(t *testing.T) {
	for _, at := range times() {
		checkFormat(t, at)
	}
	r := rand.New(rand.NewSource(6))
	for range 100000 {
		checkFormat(t, r.Intn(api.MaxTime+1))
	}
}

// TestParseErrors: P5.4, texts of no time.
func TestParseErrors(t *testing.T) {
	for _, s := range []string{
		"", " ", "2000", "2000-01-01", "2000-01-01 00:00", "2000-01-01 00:00:0", "2000-01-01 00:00:000", "2000-01-01 00:00:00Z", "2000-01-01 00:00:00 ", " 2000-01-01 00:00:00", "2000-01-01 00:00:00\n", "2000-01-01 00:00:00\x00",
		"2000-01-01T00:00:00", "2000-01-01T00:00:00Z", "2000-01-01t00:00:00", "2000-01-01_00:00:00", "2000-01-01\t00:00:00", "2000-01-01-00:00:00", "2000-01-01:00:00:00", "2000-01-01  00:00:00", "2000-01-0100:00:00", "2000-01-01\x0000:00:00",
		"2000/01/01 00:00:00", "2000.01.01 00:00:00", "2000:01:01 00:00:00", "2000 01 01 00:00:00", "2000-01/01 00:00:00", "2000/01-01 00:00:00", "2000_01-01 00:00:00", "20000101 00:00:00", "20000101000000", "20000101000000Z",
		"2000-01-01 00-00-00", "2000-01-01 00.00.00", "2000-01-01 00:00.00", "2000-01-01 00.00:00", "2000-01-01 00;00:00", "2000-01-01 000000", "2000-01-01 00 00 00", "2000-01-01 00:00 00",
		"2000-1-1 0:0:0", "2000-1-01 00:00:00", "2000-01-1 00:00:00", "2000-01-01 0:00:00", "00-01-01 00:00:00", "02000-01-01 00:00:00", "2000-001-01 00:00:00", "2000-01- 1 00:00:00", "2000- 1-01 00:00:00",
		"+200-01-01 00:00:00", "-200-01-01 00:00:00", "2000-+1-01 00:00:00", "2000--1-01 00:00:00", "2000-01-01 +1:00:00", "2000-01-01 00:-1:00", "2000-01-01 00:00:-1", "2000-01-01 00:00:1e", "2000-01-01 0x:00:00", "2000-01-01 00:00:0a",
		"2000-00-01 00:00:00", "2000-13-01 00:00:00", "2000-01-00 00:00:00", "2000-01-32 00:00:00", "2000-04-31 00:00:00", "2000-02-30 00:00:00", "2001-02-29 00:00:00", "2100-02-29 00:00:00", "1950-00-00 00:00:00", "2000-99-99 99:99:99",
		"2000-01-01 24:00:00", "2000-01-01 00:60:00", "2000-01-01 00:00:60", "1999-12-31 23:59:60", "9999-12-31 23:59:60", "9999-12-31 24:00:00", "2000-01-01 99:00:00",
		"1949-12-31 23:59:59", "1900-01-01 00:00:00", "0000-01-01 00:00:00", "0050-01-01 00:00:00", "10000-01-01 00:00:00", "0000-00-00 00:00:00", "YYYY-MM-DD HH:MM:SS", "YYYY-MM-DD hh:mm:ss", "2000-01-01 00:00:ss",
		"\u0662000-01-01 00:00:00", "2000-01-01 00:00:0\u0660", "2000\u221201\u221201 00:00:00", "20\u0660-01-01 00:00:00", "2000-01-01 00:00:\xff\xff", "\xb2\xb0\xb0\xb0-01-01 00:00:00",
		strings.Repeat("0", 100000), "2000-01-01 00:00:00" + strings.Repeat("0", 100000), strings.Repeat(" ", 19), strings.Repeat("1", 19),
	} {
		if at, err := date.Parse(s); at != 0 || err != api.ErrTime {
			t.Errorf("Parse(%.40q) is %d, %d, want ErrTime", s, at, err)
		}
	}
}

// TestParseBytes: P5.4, every byte at every place of a text, instead of the one there and before it, and texts without a byte.
func TestParseBytes(t *testing.T) {
	for _, s := range []string{"1950-01-01 00:00:00", "2000-02-29 12:34:56", "2049-12-31 23:59:59", "9999-12-31 23:59:59"} {
		for i := range len(s) + 1 {
			checkParse(t, s[:i])
			checkParse(t, s[i:])
			for b := range 256 {
				one := string([]byte{byte(b)})
				checkParse(t, s[:i]+one+s[i:])
				if i < len(s) {
					checkParse(t, s[:i]+one+s[i+1:])
					checkParse(t, s[:i]+s[i+1:])
				}
			}
		}
	}
}

// TestParseNumbers: P5.4, all years, and all numbers of two digits in the place of each other number.
func TestParseNumbers(t *testing.T) {
	for year := range 10000 {
		checkParse(t, fmt.Sprintf("%04d-01-01 00:00:00", year))
		checkParse(t, fmt.Sprintf("%04d-02-29 23:59:59", year))
		checkParse(t, fmt.Sprintf("%04d-12-31 23:59:59", year))
	}
	for _, s := range []string{"1950-01-01 00:00:00", "2000-02-29 12:34:56", "2100-04-30 23:59:59", "9999-12-31 23:59:59"} {
		for _, i := range []int{5, 8, 11, 14, 17} {
			for n := range 100 {
				checkParse(t, s[:i]+fmt.Sprintf("%02d", n)+s[i+2:])
			}
		}
	}
}

// TestParseRandom: P5.4, random numbers in the form, mostly those of a date.
func TestParseRandom(t *testing.T) {
	r := rand.New(rand.NewSource(7))
	for range 100000 {
		checkParse(t, fmt.Sprintf("%04d-%02d-%02d %02d:%02d:%02d", 1940+r.Intn(8060), r.Intn(14), r.Intn(33), r.Intn(25), r.Intn(61), r.Intn(61)))
	}
}

// textOf returns the text of a time.
func textOf(t *testing.T, at int) string {
	t.Helper()
	s, err := date.Format(at)
	if err != api.OK {
		t.Fatalf("Format(%d) has the error %d", at, err)
	}
	return s
}

// TestTextsAscend: P5.5, each of the times about ends and the next second, and all pairs of neighbours among them and random times.
func TestTextsAscend(t *testing.T) {
	l := times()
	for _, at := range l {
		if at < api.MaxTime && textOf(t, at) >= textOf(t, at+1) {
			t.Fatalf("the text of %d is %q, that of the next second %q", at, textOf(t, at), textOf(t, at+1))
		}
	}
	r := rand.New(rand.NewSource(8))
	for range 50000 {
		l = append(l, r.Intn(api.MaxTime+1))
	}
	slices.Sort(l)
	l = slices.Compact(l)
	for i, at := range l[1:] {
		if textOf(t, l[i]) >= textOf(t, at) {
			t.Fatalf("the text of %d is %q, that of %d is %q", l[i], textOf(t, l[i]), at, textOf(t, at))
		}
	}
}
