package date_test

import (
	"encoding/asn1"
	"fmt"
	"math"
	"math/rand"
	"regexp"
	"strconv"
	"strings"
	"testing"

	"certpath/api"
	"certpath/date"
	"certpath/tlv"
)

var (
	formUTC  = regexp.MustCompile(`^([0-9]{2})([0-9]{2})([0-9]{2})([0-9]{2})([0-9]{2})([0-9]{2})Z$`)
	formTime = regexp.MustCompile(`^([0-9]{4})([0-9]{2})([0-9]{2})([0-9]{2})([0-9]{2})([0-9]{2})Z$`)
)

// parts returns the date that the groups of a form are, or false if s does not have it.
func parts(form *regexp.Regexp, s string) (api.Date, bool) {
	groups := form.FindStringSubmatch(s)
	if groups == nil {
		return api.Date{}, false
	}
	var d api.Date
	for i, field := range fields(&d) {
		*field, _ = strconv.Atoi(groups[i+1])
	}
	return d, true
}

// modelDecode is P5.2.
func modelDecode(tag int, c string) (int, api.Errno) {
	var d api.Date
	var ok bool
	switch tag {
	case api.TagUTCTime:
		d, ok = parts(formUTC, c)
		if d.Year >= 50 {
			d.Year += 1900
		} else {
			d.Year += 2000
		}
	case api.TagTime:
		d, ok = parts(formTime, c)
		ok = ok && d.Year >= 2050
	default:
		return 0, api.ErrTag
	}
	t, exists := modelSeconds(d)
	if !ok || !exists {
		return 0, api.ErrTime
	}
	return t, api.OK
}

// checkDecode compares Decode with P5.2.
func checkDecode(t *testing.T, tag int, c string) {
	t.Helper()
	want, wantErr := modelDecode(tag, c)
	if at, err := date.Decode(tag, c); at != want || err != wantErr {
		t.Fatalf("Decode(%#x, %.60q) is %d, %d, want %d, %d", tag, c, at, err, want, wantErr)
	}
}

// modelEncode is P5.3 for a time.
func modelEncode(t int) string {
	m := moment(t)
	if m.Year() < 2050 {
		return "\x17\x0d" + m.Format("060102150405Z")
	}
	return "\x18\x0f" + m.Format("20060102150405Z")
}

// checkEncode compares Encode with P5.3, and Decode of the contents with it.
func checkEncode(t *testing.T, at int) {
	t.Helper()
	want := modelEncode(at)
	b, err := date.Encode(at)
	if b != want || err != api.OK {
		t.Fatalf("Encode(%d) is %q, %d, want %q", at, b, err, want)
	}
	e, err := tlv.One(b)
	if err != api.OK {
		t.Fatalf("Encode(%d) is no element: %d", at, err)
	}
	if again, err := date.Decode(e.Tag, e.Content); again != at || err != api.OK {
		t.Fatalf("Decode of Encode(%d) is %d, %d", at, again, err)
	}
	other := api.TagUTCTime + api.TagTime - e.Tag
	if got, err := date.Decode(other, e.Content); got != 0 || err != api.ErrTime {
		t.Fatalf("Decode(%#x, %q) is %d, %d, want ErrTime", other, e.Content, got, err)
	}
}

// TestDecodeKnown: P5.2, contents that are written out here.
func TestDecodeKnown(t *testing.T) {
	for _, k := range []struct {
		tag int
		c   string
		d   api.Date
	}{
		{api.TagUTCTime, "500101000000Z", api.Date{Year: 1950, Month: 1, Day: 1}},
		{api.TagUTCTime, "491231235959Z", api.Date{Year: 2049, Month: 12, Day: 31, Hour: 23, Minute: 59, Second: 59}},
		{api.TagUTCTime, "491231235958Z", api.Date{Year: 2049, Month: 12, Day: 31, Hour: 23, Minute: 59, Second: 58}},
		{api.TagUTCTime, "490101000000Z", api.Date{Year: 2049, Month: 1, Day: 1}},
		{api.TagUTCTime, "501231235959Z", api.Date{Year: 1950, Month: 12, Day: 31, Hour: 23, Minute: 59, Second: 59}},
		{api.TagUTCTime, "991231235959Z", api.Date{Year: 1999, Month: 12, Day: 31, Hour: 23, Minute: 59, Second: 59}},
		{api.TagUTCTime, "000101000000Z", api.Date{Year: 2000, Month: 1, Day: 1}},
		{api.TagUTCTime, "000229123456Z", api.Date{Year: 2000, Month: 2, Day: 29, Hour: 12, Minute: 34, Second: 56}},
		{api.TagUTCTime, "520229010203Z", api.Date{Year: 1952, Month: 2, Day: 29, Hour: 1, Minute: 2, Second: 3}},
		{api.TagTime, "20500101000000Z", api.Date{Year: 2050, Month: 1, Day: 1}},
		{api.TagTime, "20500101000001Z", api.Date{Year: 2050, Month: 1, Day: 1, Second: 1}},
		{api.TagTime, "21000228235959Z", api.Date{Year: 2100, Month: 2, Day: 28, Hour: 23, Minute: 59, Second: 59}},
		{api.TagTime, "24000229040506Z", api.Date{Year: 2400, Month: 2, Day: 29, Hour: 4, Minute: 5, Second: 6}},
		{api.TagTime, "99991231235959Z", api.Date{Year: 9999, Month: 12, Day: 31, Hour: 23, Minute: 59, Second: 59}},
	} {
		want, _ := modelSeconds(k.d)
		if at, err := date.Decode(k.tag, k.c); at != want || err != api.OK {
			t.Errorf("Decode(%#x, %q) is %d, %d, want %d", k.tag, k.c, at, err, want)
		}
	}
}

// noTimes are contents that are none of a time, with either tag.
var noTimes = []string{
	"", "Z", "0", "500101", "5001010000Z", "500101000000", "50010100000Z", "5001010000000Z", "500101000000ZZ", "500101000000z", "500101000000Z ", " 500101000000Z", "500101000000\x00",
	"500101000000+0000", "500101000000-0", "500101000000+", "5001010000+0000", "500101000000.0Z", "500101000000Z\x00", "500101000000Z\n", "50-101000000Z", "5001+1000000Z", "500101 00000Z", "50010100000 Z",
	"000000000000Z", "500001000000Z", "501301000000Z", "500100000000Z", "500132000000Z", "500229000000Z", "500230000000Z", "500431000000Z", "510229000000Z", "000230000000Z", "010229000000Z",
	"500101240000Z", "500101006000Z", "500101000060Z", "500101250000Z", "500101009900Z", "500101000099Z", "991231235960Z", "509901000000Z", "500199000000Z",
	"2050010100000Z", "205001010000000Z", "20500101000000", "20500101000000z", "20500101000000ZZ", "20500101000000Z ", " 20500101000000Z", "20500101000000+", "20500101000000.0Z", "205001010000Z00", "20500101 00000Z", "+2050101000000Z",
	"20491231235959Z", "20000101000000Z", "19500101000000Z", "19491231235959Z", "00000101000000Z", "00500101000000Z", "19991231235959Z", "20490101000000Z",
	"20500001000000Z", "20501301000000Z", "20500100000000Z", "20500132000000Z", "20500229000000Z", "21000229000000Z", "22000229000000Z", "24000230000000Z", "20500431000000Z",
	"20500101240000Z", "20500101006000Z", "20500101000060Z", "99991231235960Z", "99991232000000Z", "99991231240000Z", "100000101000000Z", "00000000000000Z",
	"50010100000\u0660Z", "\uff15\uff10010100Z", "5001010000\u0660Z", "50\xb3101000000Z", "\xff\xff\xff\xff\xff\xff\xff\xff\xff\xff\xff\xffZ",
}

// TestDecodeErrors: P5.2, contents of no time, and other tags, which come first.
func TestDecodeErrors(t *testing.T) {
	for _, c := range append(noTimes, strings.Repeat("0", 100000), strings.Repeat("9", 12), strings.Repeat("9", 14)+"Z", "500101000000Z"+strings.Repeat("Z", 100000)) {
		for _, tag := range []int{api.TagUTCTime, api.TagTime} {
			if at, err := date.Decode(tag, c); at != 0 || err != api.ErrTime {
				t.Errorf("Decode(%#x, %.40q) is %d, %d, want ErrTime", tag, c, at, err)
			}
		}
	}
	tags := []int{math.MinInt, math.MaxInt, 256 + api.TagUTCTime, 256 + api.TagTime, 1<<32 + api.TagUTCTime, 1<<32 + api.TagTime, -api.TagUTCTime, -api.TagTime}
	for tag := -1; tag < 300; tag++ {
		if tag != api.TagUTCTime && tag != api.TagTime {
			tags = append(tags, tag)
		}
	}
	for _, tag := range tags {
		for _, c := range []string{"500101000000Z", "20500101000000Z", "", "x", "501301000000Z"} {
			if at, err := date.Decode(tag, c); at != 0 || err != api.ErrTag {
				t.Errorf("Decode(%#x, %q) is %d, %d, want ErrTag", tag, c, at, err)
			}
		}
	}
}

// TestDecodeYears: P5.2, all years of two and of four digits.
func TestDecodeYears(t *testing.T) {
	for _, rest := range []string{"0101000000Z", "0228235959Z", "0229000000Z", "1231235959Z"} {
		for year := range 100 {
			checkDecode(t, api.TagUTCTime, fmt.Sprintf("%02d", year)+rest)
		}
		for year := range 10000 {
			checkDecode(t, api.TagTime, fmt.Sprintf("%04d", year)+rest)
		}
	}
}

// TestDecodePairs: P5.2, all numbers of two digits at each place of contents.
func TestDecodePairs(t *testing.T) {
	for tag, l := range map[int][]string{
		api.TagUTCTime: {"500101000000Z", "491231235959Z", "000229123456Z", "990430112233Z"},
		api.TagTime:    {"20500101000000Z", "99991231235959Z", "24000229123456Z", "21000430112233Z"},
	} {
		for _, c := range l {
			for i := range len(c) - 1 {
				for n := range 100 {
					checkDecode(t, tag, c[:i]+fmt.Sprintf("%02d", n)+c[i+2:])
				}
			}
		}
	}
}

// TestDecodeBytes: P5.2, every byte at every place of contents, instead of the one there and before it, and contents without a byte.
func TestDecodeBytes(t *testing.T) {
	for _, tag := range []int{api.TagUTCTime, api.TagTime} {
		for _, c := range []string{"500101000000Z", "491231235959Z", "20500101000000Z", "99991231235959Z"} {
			for i := range len(c) + 1 {
				checkDecode(t, tag, c[:i])
				checkDecode(t, tag, c[i:])
				for b := range 256 {
					one := string([]byte{byte(b)})
					checkDecode(t, tag, c[:i]+one+c[i:])
					if i < len(c) {
						checkDecode(t, tag, c[:i]+one+c[i+1:])
						checkDecode(t, tag, c[:i]+c[i+1:])
					}
				}
			}
		}
	}
}

// TestDecodeRandom: P5.2, random digits, mostly those of a date.
func TestDecodeRandom(t *testing.T) {
	r := rand.New(rand.NewSource(3))
	for range 100000 {
		rest := fmt.Sprintf("%02d%02d%02d%02d%02dZ", r.Intn(14), r.Intn(33), r.Intn(25), r.Intn(61), r.Intn(61))
		checkDecode(t, api.TagUTCTime, fmt.Sprintf("%02d", r.Intn(100))+rest)
		checkDecode(t, api.TagTime, fmt.Sprintf("%04d", r.Intn(10000))+rest)
	}
}

// TestEncodeKnown: P5.3, elements that are written out here.
func TestEncodeKnown(t *testing.T) {
	for _, k := range []struct {
		t int
		b string
	}{
		{0, "\x17\x0d500101000000Z"}, {1, "\x17\x0d500101000001Z"}, {day - 1, "\x17\x0d500101235959Z"},
		{1577836799, "\x17\x0d991231235959Z"}, {1577836800, "\x17\x0d000101000000Z"}, {1582934400, "\x17\x0d000229000000Z"},
		{3155759999, "\x17\x0d491231235959Z"}, {3155760000, "\x18\x0f20500101000000Z"}, {4738694400, "\x18\x0f21000301000000Z"},
		{api.MaxTime - 1, "\x18\x0f99991231235958Z"}, {api.MaxTime, "\x18\x0f99991231235959Z"},
	} {
		if b, err := date.Encode(k.t); b != k.b || err != api.OK {
			t.Errorf("Encode(%d) is %q, %d, want %q", k.t, b, err, k.b)
		}
	}
}

// TestEncodeRange: P5.3, numbers that are no times.
func TestEncodeRange(t *testing.T) {
	for _, at := range outside {
		if b, err := date.Encode(at); b != "" || err != api.ErrRange {
			t.Errorf("Encode(%d) is %q, %d, want ErrRange", at, b, err)
		}
	}
}

// TestEncode: P5.3, times about ends, and random ones, half of them before 2050.
func TestEncode(t *testing.T) {
	for _, at := range times() {
		checkEncode(t, at)
	}
	r := rand.New(rand.NewSource(4))
	for range 50000 {
		checkEncode(t, r.Intn(api.MaxTime+1))
		checkEncode(t, r.Intn(3155760000))
	}
}

// TestEncodeLibrary: P5.3, against Go's own encoder, which chooses by the year, too.
func TestEncodeLibrary(t *testing.T) {
	r := rand.New(rand.NewSource(5))
	l := times()
	for range 2000 {
		l = append(l, r.Intn(api.MaxTime+1), r.Intn(3155760000))
	}
	for _, at := range l {
		want, err := asn1.Marshal(moment(at))
		if err != nil {
			t.Fatal(err)
		}
		if b, err := date.Encode(at); b != string(want) || err != api.OK {
			t.Fatalf("Encode(%d) is %q, %d, want %q", at, b, err, want)
		}
	}
}
