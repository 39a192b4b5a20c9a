package ots_test

import (
	"fmt"

	"certpath/api"
	"certpath/hash"
	"certpath/ots"
)

// The example of README.md, with that of the chapter.
func Example() {
	id, seed := hash.Short("id"), hash.Sum("secret")
	digest, other := hash.Short("a message"), hash.Short("another one")

	key, err := ots.Public(id, seed, 7)
	fmt.Println(len(key), err)
	signature, err := ots.Sign(id, seed, 7, digest)
	fmt.Println(len(signature), err)
	_, err = ots.Sign(id, seed, 256, digest)
	fmt.Println(err == api.ErrRange)

	k, err := ots.Recover(id, 7, digest, signature)
	fmt.Println(k == key, err)
	k, err = ots.Recover(id, 7, other, signature)
	fmt.Println(k == key, err)
	_, err = ots.Recover(id, 7, digest, signature[1:])
	fmt.Println(err == api.ErrSignature)

	l, err := ots.Digits("\x00\x00\x00\x00\x00\x00\x00\x00\x00\x00\x00\x00\x00\x00\x00\x00")
	fmt.Println(len(l), l[31:], err)
	// Output:
	// 16 0
	// 560 0
	// true
	// true 0
	// false 0
	// true
	// 35 [0 1 14 0] 0
}
