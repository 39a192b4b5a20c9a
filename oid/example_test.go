package oid_test

import (
	"fmt"

	"certpath/api"
	"certpath/oid"
)

// The example of README.md, with those of the chapter.
func Example() {
	c, err := oid.Encode("2.5.29.19")
	fmt.Printf("%x %d\n", c, err)
	s, err := oid.Decode("\x55\x1d\x13")
	fmt.Println(s, err)
	_, err = oid.Decode("\x55\x80\x13")
	fmt.Println(err == api.ErrOID)

	fmt.Println(oid.Valid("1.40"), oid.Valid("2.40"))
	fmt.Println(oid.Less("1.2.9", "1.2.10"))
	fmt.Println(oid.Under(api.OIDAnyPolicy, api.OIDPolicies), oid.Under("1.2.30", "1.2.3"))
	// Output:
	// 551d13 0
	// 2.5.29.19 0
	// true
	// false true
	// true
	// true false
}
