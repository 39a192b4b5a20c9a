package merkle_test

import (
	"fmt"

	"certpath/api"
	"certpath/hash"
	"certpath/merkle"
	"certpath/ots"
)

// The example of README.md, with those of the chapter.
func Example() {
	tree, err := merkle.Generate(hash.Sum("secret"), 2)
	fmt.Println(tree.Leaves(), err)
	k := tree.Key()
	fmt.Println(k.Height, len(k.ID), len(k.Root), merkle.Check(k))
	_, err = merkle.Generate(hash.Sum("secret"), 9)
	fmt.Println(err == api.ErrRange)

	signature, err := tree.Sign(3, "a message")
	fmt.Println(len(signature), err)
	_, err = tree.Sign(4, "a message")
	fmt.Println(err == api.ErrRange)

	leaf, ok := merkle.Leaf(signature)
	fmt.Println(leaf, ok)
	fmt.Println(merkle.Verify(k, "a message", signature))
	fmt.Println(merkle.Verify(k, "another one", signature) == api.ErrSignature)

	single, err := merkle.Generate(hash.Sum("secret"), 0)
	fmt.Println(single.Leaves(), err)
	public, err := ots.Public(k.ID, hash.Sum("secret"), 0)
	fmt.Println(single.Key().Root == public, err)
	// Output:
	// 4 0
	// 2 16 16 0
	// true
	// 596 0
	// true
	// 3 true
	// 0
	// true
	// 1 0
	// true 0
}
