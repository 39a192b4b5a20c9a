package date_test

import (
	"fmt"

	"certpath/api"
	"certpath/date"
)

// The example of README.md, with those of the chapter.
func Example() {
	first, err := date.Civil(0)
	fmt.Println(first, err)
	d, err := date.Civil(86400 * 31)
	fmt.Println(d, err)
	t, err := date.Seconds(api.Date{Year: 2000, Month: 2, Day: 29, Hour: 12})
	fmt.Println(t, err)
	_, err = date.Seconds(api.Date{Year: 2100, Month: 2, Day: 29})
	fmt.Println(err == api.ErrTime)

	s, err := date.Format(86400 * 31)
	fmt.Println(s, err)
	t, err = date.Parse("2000-02-29 12:00:00")
	fmt.Println(t, err)
	s, err = date.Format(api.MaxTime + 1)
	fmt.Printf("%q %v\n", s, err == api.ErrRange)
	_, err = date.Parse("2000-02-29T12:00:00")
	fmt.Println(err == api.ErrTime)

	b, err := date.Encode(t)
	fmt.Printf("%q %d\n", b, err)
	t, err = date.Decode(api.TagUTCTime, "491231235959Z")
	fmt.Println(t, err)
	b, err = date.Encode(t + 1)
	fmt.Printf("%q %d\n", b, err)
	t, err = date.Decode(api.TagUTCTime, "500101000000Z")
	fmt.Println(t, err)
	_, err = date.Decode(api.TagTime, "20491231235959Z")
	fmt.Println(err == api.ErrTime)
	// Output:
	// {1950 1 1 0 0 0} 0
	// {1950 2 1 0 0 0} 0
	// 1582977600 0
	// true
	// 1950-02-01 00:00:00 0
	// 1582977600 0
	// "" true
	// true
	// "\x17\r000229120000Z" 0
	// 3155759999 0
	// "\x18\x0f20500101000000Z" 0
	// 0 0
	// true
}
