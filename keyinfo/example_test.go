package keyinfo_test

import (
	"fmt"

	"certpath/api"
	"certpath/hash"
	"certpath/keyinfo"
	"certpath/merkle"
	"certpath/tlv"
)

// The example of README.md, with that of the chapter.
func Example() {
	tree, err := merkle.Generate(hash.Sum("secret"), 2)
	k := tree.Key()
	b, err := keyinfo.Encode(k)
	fmt.Println(len(b), err)
	fmt.Printf("% x\n", b[:16])
	again, err := keyinfo.Decode(b)
	fmt.Println(again == k, err)
	_, err = keyinfo.Encode(api.Key{Height: 2})
	fmt.Println(err == api.ErrKey)
	_, err = keyinfo.Decode(b[1:])
	fmt.Println(err == api.ErrTrailing)

	fmt.Println(len(keyinfo.Identifier(k)))
	fmt.Println(keyinfo.Identifier(k) == hash.Short("\x02", k.ID, k.Root))
	fmt.Println(keyinfo.Identifier(api.Key{}) == "")

	e, err := tlv.One(keyinfo.Algorithm())
	fmt.Println(keyinfo.CheckAlgorithm(e), err)
	e, err = tlv.One("\x30\x04\x06\x02\x2a\x03")
	fmt.Println(keyinfo.CheckAlgorithm(e) == api.ErrAlgorithm, err)
	// Output:
	// 52 0
	// 30 32 30 0c 06 0a 2b 06 01 04 01 83 cc 08 01 01
	// true 0
	// true
	// true
	// 16
	// true
	// true
	// 0 0
	// true 0
}
