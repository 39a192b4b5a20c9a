package date_test

import (
	"math"
	"math/rand"
	"testing"
	"time"

	"certpath/api"
	"certpath/date"
)

const day = 86400

// begin is the time 0 of Go's library.
var begin = time.Date(1950, 1, 1, 0, 0, 0, 0, time.UTC)

// moment returns a time as one of Go's library, which is the model of the calendar.
func moment(t int) time.Time {
	return time.Unix(begin.Unix()+int64(t), 0).UTC()
}

// modelDate returns the date of a time by the model.
func modelDate(t int) api.Date {
	m := moment(t)
	return api.Date{Year: m.Year(), Month: int(m.Month()), Day: m.Day(), Hour: m.Hour(), Minute: m.Minute(), Second: m.Second()}
}

// modelSeconds returns the time of d, and whether d is a date, by the model: the library carries what is too much, so that only a date stays as it is.
func modelSeconds(d api.Date) (int, bool) {
	for _, n := range []int{d.Year, d.Month, d.Day, d.Hour, d.Minute, d.Second} {
		if n < 0 || n > 100000 { // too far for the library
			return 0, false
		}
	}
	m := time.Date(d.Year, time.Month(d.Month), d.Day, d.Hour, d.Minute, d.Second, 0, time.UTC)
	t := int(m.Unix() - begin.Unix())
	return t, t >= 0 && t <= api.MaxTime && modelDate(t) == d
}

// known are dates and their times, in ascending order, that are written out here.
var known = []struct {
	t int
	d api.Date
}{
	{0, api.Date{Year: 1950, Month: 1, Day: 1}},
	{1, api.Date{Year: 1950, Month: 1, Day: 1, Second: 1}},
	{59, api.Date{Year: 1950, Month: 1, Day: 1, Second: 59}},
	{60, api.Date{Year: 1950, Month: 1, Day: 1, Minute: 1}},
	{3599, api.Date{Year: 1950, Month: 1, Day: 1, Minute: 59, Second: 59}},
	{3600, api.Date{Year: 1950, Month: 1, Day: 1, Hour: 1}},
	{day - 1, api.Date{Year: 1950, Month: 1, Day: 1, Hour: 23, Minute: 59, Second: 59}},
	{day, api.Date{Year: 1950, Month: 1, Day: 2}},
	{31*day - 1, api.Date{Year: 1950, Month: 1, Day: 31, Hour: 23, Minute: 59, Second: 59}},
	{31 * day, api.Date{Year: 1950, Month: 2, Day: 1}},
	{59*day - 1, api.Date{Year: 1950, Month: 2, Day: 28, Hour: 23, Minute: 59, Second: 59}},
	{59 * day, api.Date{Year: 1950, Month: 3, Day: 1}},
	{365*day - 1, api.Date{Year: 1950, Month: 12, Day: 31, Hour: 23, Minute: 59, Second: 59}},
	{365 * day, api.Date{Year: 1951, Month: 1, Day: 1}},
	{789 * day, api.Date{Year: 1952, Month: 2, Day: 29}},
	{790 * day, api.Date{Year: 1952, Month: 3, Day: 1}},
	{631152000, api.Date{Year: 1970, Month: 1, Day: 1}},
	{1577836799, api.Date{Year: 1999, Month: 12, Day: 31, Hour: 23, Minute: 59, Second: 59}},
	{1577836800, api.Date{Year: 2000, Month: 1, Day: 1}},
	{1582934400, api.Date{Year: 2000, Month: 2, Day: 29}},
	{1583020800, api.Date{Year: 2000, Month: 3, Day: 1}},
	{2425593600, api.Date{Year: 2026, Month: 11, Day: 12}},
	{3155759999, api.Date{Year: 2049, Month: 12, Day: 31, Hour: 23, Minute: 59, Second: 59}},
	{3155760000, api.Date{Year: 2050, Month: 1, Day: 1}},
	{4738694399, api.Date{Year: 2100, Month: 2, Day: 28, Hour: 23, Minute: 59, Second: 59}},
	{4738694400, api.Date{Year: 2100, Month: 3, Day: 1}},
	{14205715199, api.Date{Year: 2400, Month: 2, Day: 28, Hour: 23, Minute: 59, Second: 59}},
	{14205715200, api.Date{Year: 2400, Month: 2, Day: 29}},
	{14205801600, api.Date{Year: 2400, Month: 3, Day: 1}},
	{api.MaxTime, api.Date{Year: 9999, Month: 12, Day: 31, Hour: 23, Minute: 59, Second: 59}},
}

// times returns the times about the ends of the months of many years, and about those of the whole.
func times() []int {
	l := []int{0, 1, 2, api.MaxTime - 2, api.MaxTime - 1, api.MaxTime}
	for _, k := range known {
		l = append(l, k.t)
	}
	for _, year := range []int{1950, 1951, 1952, 1999, 2000, 2001, 2004, 2048, 2049, 2050, 2096, 2100, 2104, 2200, 2400, 3000, 4000, 9996, 9999} {
		for month := 1; month <= 12; month++ {
			first := int(time.Date(year, time.Month(month), 1, 0, 0, 0, 0, time.UTC).Unix() - begin.Unix())
			for _, near := range []int{0, 1, 31*day - 1, 28*day - 1, 28 * day, 29*day - 1, 29 * day, 30*day - 1, 30 * day} {
				if t := first + near; t <= api.MaxTime {
					l = append(l, t)
				}
			}
			if first > 0 {
				l = append(l, first-1)
			}
		}
	}
	return l
}

// outside are numbers that are no times.
var outside = []int{
	-1, -2, -day, -365 * day, api.MaxTime + 1, api.MaxTime + 2, api.MaxTime + day, 2 * api.MaxTime,
	math.MinInt, math.MinInt + 1, math.MaxInt, math.MaxInt - 1, math.MinInt32, -api.MaxTime,
}

// checkTime compares Civil with P5.1 for a time, and Seconds with it.
func checkTime(t *testing.T, at int) {
	t.Helper()
	want := modelDate(at)
	d, err := date.Civil(at)
	if d != want || err != api.OK {
		t.Fatalf("Civil(%d) is %v, %d, want %v", at, d, err, want)
	}
	if again, err := date.Seconds(d); again != at || err != api.OK {
		t.Fatalf("Seconds(%v) is %d, %d, want %d", d, again, err, at)
	}
}

// checkDate compares Seconds with P5.1 for any numbers.
func checkDate(t *testing.T, d api.Date) {
	t.Helper()
	want, wantErr := 0, api.ErrTime
	if at, ok := modelSeconds(d); ok {
		want, wantErr = at, api.OK
	}
	if at, err := date.Seconds(d); at != want || err != wantErr {
		t.Fatalf("Seconds(%v) is %d, %d, want %d, %d", d, at, err, want, wantErr)
	}
}

// TestCivilKnown: P5.1, times and dates that are written out.
func TestCivilKnown(t *testing.T) {
	for _, k := range known {
		if d, err := date.Civil(k.t); d != k.d || err != api.OK {
			t.Errorf("Civil(%d) is %v, %d, want %v", k.t, d, err, k.d)
		}
		if at, err := date.Seconds(k.d); at != k.t || err != api.OK {
			t.Errorf("Seconds(%v) is %d, %d, want %d", k.d, at, err, k.t)
		}
	}
}

// TestCivilRange: P5.1, numbers that are no times.
func TestCivilRange(t *testing.T) {
	for _, at := range outside {
		if d, err := date.Civil(at); d != (api.Date{}) || err != api.ErrRange {
			t.Errorf("Civil(%d) is %v, %d, want ErrRange", at, d, err)
		}
	}
}

// TestCivil: P5.1, times about ends, each second of some days, and random times.
func TestCivil(t *testing.T) {
	for _, at := range times() {
		checkTime(t, at)
	}
	for _, first := range []int{0, 58 * day, 1577836800 - day, api.MaxTime + 1 - day} {
		for at := first; at < first+day; at++ {
			checkTime(t, at)
		}
	}
	r := rand.New(rand.NewSource(1))
	for range 100000 {
		checkTime(t, r.Intn(api.MaxTime+1))
	}
}

// lengths are the days of the months by the rule of the calendar, for the test of every day.
func lengths(year int) []int {
	february := 28
	if year%400 == 0 || year%4 == 0 && year%100 != 0 {
		february = 29
	}
	return []int{31, february, 31, 30, 31, 30, 31, 31, 30, 31, 30, 31}
}

// TestEveryDay: P5.1, the first and the last second of every day, and the days beside each month, which are none.
func TestEveryDay(t *testing.T) {
	at := 0
	for year := 1950; year <= 9999; year++ {
		for i, length := range lengths(year) {
			for n := 1; n <= length; n++ {
				d := api.Date{Year: year, Month: i + 1, Day: n}
				last := api.Date{Year: year, Month: i + 1, Day: n, Hour: 23, Minute: 59, Second: 59}
				for seconds, want := range map[int]api.Date{at: d, at + day - 1: last} {
					got, err := date.Civil(seconds)
					again, errAgain := date.Seconds(want)
					if got != want || err != api.OK || again != seconds || errAgain != api.OK {
						t.Fatalf("Civil(%d) is %v, %d, Seconds(%v) is %d, %d", seconds, got, err, want, again, errAgain)
					}
				}
				at += day
			}
			for _, n := range []int{-1, 0, length + 1, length + 2} {
				d := api.Date{Year: year, Month: i + 1, Day: n}
				if got, err := date.Seconds(d); got != 0 || err != api.ErrTime {
					t.Fatalf("Seconds(%v) is %d, %d, want ErrTime", d, got, err)
				}
			}
		}
	}
	if at != api.MaxTime+1 {
		t.Fatalf("the days end at %d", at)
	}
}

// TestLeapYears: P5.1, 28 and 29 February in years that are divisible by 4, by 100 and by 400, and in others.
func TestLeapYears(t *testing.T) {
	for year, leap := range map[int]bool{
		1952: true, 1996: true, 2004: true, 2048: true, 2096: true, 9996: true, 2000: true, 2400: true, 2800: true, 4000: true, 9600: true,
		1950: false, 1951: false, 1999: false, 2001: false, 2002: false, 2003: false, 2050: false, 9999: false, 2100: false, 2200: false, 2300: false, 2500: false, 9900: false,
	} {
		d28 := api.Date{Year: year, Month: 2, Day: 28, Hour: 23, Minute: 59, Second: 59}
		at, err := date.Seconds(d28)
		if err != api.OK {
			t.Errorf("Seconds(%v) is %d, %d", d28, at, err)
		}
		next, d29 := api.Date{Year: year, Month: 3, Day: 1}, api.Date{Year: year, Month: 2, Day: 29}
		want29, wantErr := 0, api.ErrTime
		if leap {
			next, want29, wantErr = d29, at+1, api.OK
		}
		if d, err := date.Civil(at + 1); d != next || err != api.OK {
			t.Errorf("the second after %v is %v, %d, want %v", d28, d, err, next)
		}
		if at29, err := date.Seconds(d29); at29 != want29 || err != wantErr {
			t.Errorf("Seconds(%v) is %d, %d, want %d, %d", d29, at29, err, want29, wantErr)
		}
	}
}

// fields returns pointers to the fields of a date.
func fields(d *api.Date) []*int {
	return []*int{&d.Year, &d.Month, &d.Day, &d.Hour, &d.Minute, &d.Second}
}

// TestSecondsErrors: P5.1, dates in which one number, or two, are none that a date has, and those just within.
func TestSecondsErrors(t *testing.T) {
	edges := []int{
		math.MinInt, math.MinInt + 1, math.MinInt32, -1950, -12, -1, 0, 1, 2, 11, 12, 13, 14, 22, 23, 24, 25, 27, 28, 29, 30, 31, 32, 58, 59, 60, 61, 99, 100, 365,
		1899, 1900, 1949, 1950, 1951, 1999, 2000, 2049, 2050, 2051, 2100, 9998, 9999, 10000, 10001, 19500, math.MaxInt32, math.MaxInt - 1, math.MaxInt,
	}
	for _, base := range []api.Date{
		{Year: 1950, Month: 1, Day: 1}, {Year: 2000, Month: 2, Day: 29, Hour: 12, Minute: 30, Second: 30},
		{Year: 2100, Month: 4, Day: 30, Hour: 23, Minute: 59, Second: 59}, {Year: 9999, Month: 12, Day: 31, Hour: 23, Minute: 59, Second: 59},
	} {
		for i := range fields(&base) {
			for j := range fields(&base) {
				for _, n := range edges {
					for _, m := range edges {
						d := base
						*fields(&d)[i] = n
						*fields(&d)[j] = m
						checkDate(t, d)
					}
				}
			}
		}
	}
	for _, d := range []api.Date{
		{}, {Year: 1949, Month: 12, Day: 31, Hour: 23, Minute: 59, Second: 59}, {Year: 10000, Month: 1, Day: 1}, {Year: 2000, Month: 0, Day: 1}, {Year: 2000, Month: 13, Day: 1},
		{Year: 2000, Month: 1, Day: 0}, {Year: 2000, Month: 1, Day: 32}, {Year: 2000, Month: 4, Day: 31}, {Year: 2001, Month: 2, Day: 29}, {Year: 2000, Month: 2, Day: 30},
		{Year: 2000, Month: 1, Day: 1, Hour: 24}, {Year: 2000, Month: 1, Day: 1, Minute: 60}, {Year: 2000, Month: 1, Day: 1, Second: 60}, {Year: 2000, Month: 1, Day: 1, Second: -1},
		{Year: 2000, Month: 1, Day: 1, Hour: -1}, {Year: 2000, Month: 1, Day: 1, Minute: -1}, {Year: 2000, Month: -1, Day: 1}, {Year: -2000, Month: 1, Day: 1}, {Year: 0, Month: 1, Day: 1},
		{Year: 1999, Month: 12, Day: 31, Hour: 23, Minute: 59, Second: 60}, // a leap second, of which there are none
	} {
		if at, err := date.Seconds(d); at != 0 || err != api.ErrTime {
			t.Errorf("Seconds(%v) is %d, %d, want ErrTime", d, at, err)
		}
	}
}

// TestSecondsRandom: P5.1, random numbers about those of dates.
func TestSecondsRandom(t *testing.T) {
	r := rand.New(rand.NewSource(2))
	for range 300000 {
		checkDate(t, api.Date{
			Year: 1940 + r.Intn(8070), Month: r.Intn(14), Day: r.Intn(33),
			Hour: r.Intn(26) - 1, Minute: r.Intn(62) - 1, Second: r.Intn(62) - 1,
		})
	}
}

// TestModel checks the tests' own list and model.
func TestModel(t *testing.T) {
	for i, k := range known {
		if i > 0 && k.t <= known[i-1].t {
			t.Errorf("%d is not in its place", k.t)
		}
		if d := modelDate(k.t); d != k.d {
			t.Errorf("the model's date of %d is %v, want %v", k.t, d, k.d)
		}
		if at, ok := modelSeconds(k.d); at != k.t || !ok {
			t.Errorf("the model's time of %v is %d, %v, want %d", k.d, at, ok, k.t)
		}
	}
	if _, ok := modelSeconds(api.Date{Year: 2001, Month: 2, Day: 29}); ok {
		t.Error("the model has a day that does not exist")
	}
}
