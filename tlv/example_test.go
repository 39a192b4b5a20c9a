package tlv_test

import (
	"fmt"

	"certpath/api"
	"certpath/tlv"
)

// The example of README.md, with those of the chapter.
func Example() {
	octets, err := tlv.Wrap(api.TagOctets, "ab")
	fmt.Printf("%x %d\n", octets, err)
	_, _, err = tlv.Read("\x04\x81\x02ab")
	fmt.Println(err == api.ErrLength)

	null, _ := tlv.Wrap(api.TagNull)
	set, _ := tlv.Wrap(api.TagSet, tlv.Order(null, octets))
	fmt.Println(tlv.Check(set) == api.OK)

	e, _ := tlv.One(set)
	l, _ := tlv.List(e.Content)
	for _, inner := range l {
		fmt.Printf("%d %q\n", inner.Tag, inner.Content)
	}
	fmt.Println(tlv.Ascending(l))
	// Output:
	// 04026162 0
	// true
	// true
	// 4 "ab"
	// 5 ""
	// true
}
