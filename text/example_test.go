package text_test

import (
	"fmt"

	"certpath/api"
	"certpath/text"
)

// The example of README.md, with those of the chapter.
func Example() {
	fmt.Println(text.Valid(api.TagUTF8, "Société"), text.Valid(api.TagIA5, "Société"))
	fmt.Println(text.Valid(api.TagIA5, "a@example.com"), text.Valid(api.TagPrintable, "a@example.com"))
	fmt.Println(text.Valid(api.TagUTF8, "\xc0\xaf"), text.Valid(api.TagOctets, ""))

	fmt.Printf("%q\n", text.Fold("  Example   Corp "))
	fmt.Println(text.Match("EXAMPLE  Corp", "Example Corp"), text.Match("É", "é"))

	fmt.Println(text.Escape("a,b"))
	s, ok := text.Unescape(`a\2cb`)
	fmt.Println(s, ok)
	s, ok = text.Unescape(`a\2Cb`)
	fmt.Printf("%q %v\n", s, ok)
	s, ok = text.Unescape(`\61b`)
	fmt.Printf("%q %v\n", s, ok)
	// Output:
	// true false
	// true false
	// false false
	// "example corp"
	// true false
	// a\2cb
	// a,b true
	// "" false
	// "" false
}
