package hash_test

import (
	"fmt"

	"certpath/hash"
)

// The example of README.md.
func Example() {
	fmt.Println(hash.Hex(hash.Sum("a", "bc")))
	fmt.Println(hash.Hex(hash.Short("abc")))

	s := hash.Start()
	s.Write("a")
	s.Write("bc")
	fmt.Println(s.Len(), s.Sum() == hash.Sum("abc"))

	_, ok := hash.Unhex("AB")
	fmt.Println(ok)
	// Output:
	// ba7816bf8f01cfea414140de5dae2223b00361a396177a9cb410ff61f20015ad
	// ba7816bf8f01cfea414140de5dae2223
	// 3 true
	// false
}
