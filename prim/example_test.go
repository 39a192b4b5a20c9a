package prim_test

import (
	"fmt"

	"certpath/api"
	"certpath/prim"
)

// The example of README.md, with those of the chapter.
func Example() {
	fmt.Printf("%x %x\n", prim.PutInteger(128), prim.PutInteger(-1))
	v, err := prim.Integer("\x00\x80")
	fmt.Println(v, err)
	_, err = prim.Integer("\x00\x7f")
	fmt.Println(err == api.ErrValue)

	yes, err := prim.Boolean(prim.PutBoolean(true))
	fmt.Println(yes, err)

	c, err := prim.PutBits("a\xf0", 4)
	fmt.Printf("%x %d\n", c, err)
	b, unused, err := prim.Bits(c)
	fmt.Printf("%q %d %d\n", b, unused, err)

	flags, _ := prim.PutFlags(api.UseCerts | api.UseLists)
	fmt.Printf("%x\n", flags)
	mask, err := prim.Flags(flags)
	fmt.Println(mask == api.UseCerts|api.UseLists, err)
	six, _ := prim.PutFlags(6)
	none, _ := prim.PutFlags(0)
	fmt.Printf("%x %x\n", six, none)
	// Output:
	// 0080 ff
	// 128 0
	// true
	// true 0
	// 0461f0 0
	// "a\xf0" 4 0
	// 0106
	// true 0
	// 0560 00
}
