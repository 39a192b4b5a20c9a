package signer_test

import (
	"fmt"

	"certpath/api"
	"certpath/hash"
	"certpath/merkle"
	"certpath/signer"
)

// The example of README.md, with that of the chapter.
func Example() {
	s, err := signer.New(hash.Sum("secret"), 1)
	fmt.Println(s.Next(), s.Left(), err)
	first, err := s.Sign("a message")
	leaf, ok := merkle.Leaf(first)
	fmt.Println(leaf, ok, merkle.Verify(s.Key(), "a message", first), err)

	b := s.Save()
	fmt.Println(len(b), b[:4])
	second, err := s.Sign("another one")
	fmt.Println(len(second), s.Left(), err)
	_, err = s.Sign("a third one")
	fmt.Println(err == api.ErrExhausted)

	l, err := signer.Load(b)
	fmt.Println(l.Next(), l.Key() == s.Key(), err)
	fork := l.Fork()
	fmt.Println(l.Skip(5))
	fmt.Println(fork.Left())
	_, err = signer.Load(b[1:])
	fmt.Println(err == api.ErrValue)

	_, err = signer.At(hash.Sum("secret"), 1, 2)
	fmt.Println(err)
	_, err = signer.At(hash.Sum("secret"), 1, 3)
	fmt.Println(err == api.ErrRange)
	// Output:
	// 0 2 0
	// 0 true 0 0
	// 41 KEY1
	// 580 0 0
	// true
	// 1 true 0
	// 1
	// 1
	// true
	// 0
	// true
}
