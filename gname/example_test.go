package gname_test

import (
	"fmt"

	"certpath/api"
	"certpath/gname"
	"certpath/tlv"
)

// The example of README.md, with those of the chapter.
func Example() {
	www := api.GeneralName{Kind: api.NameDNS, Text: "www.example.org"}
	all := api.GeneralName{Kind: api.NameDNS}
	fmt.Println(gname.Check(www, false), gname.Check(www, true), gname.Check(all, false) == api.ErrName, gname.Check(all, true))

	b, err := gname.Encode(api.GeneralName{Kind: api.NameDNS, Text: "a.b"}, false)
	fmt.Printf("% x %d\n", b, err)
	e, _ := tlv.One(b)
	g, err := gname.Decode(e, false)
	fmt.Println(g.Text, err)
	b, _ = gname.Encode(www, false)
	fmt.Printf("% x\n", b[:6])
	b, err = gname.EncodeList([]api.GeneralName{www, {Kind: api.NameAddress, Text: "\x7f\x00\x00\x01"}})
	fmt.Printf("%q %d\n", b, err)
	l, err := gname.DecodeList(b)
	fmt.Println(len(l), gname.Same(l[0], www), err)
	_, err = gname.DecodeList("")
	fmt.Println(err == api.ErrValue)

	pattern, err := gname.Parse(`dns:\2a.example.org`)
	fmt.Println(pattern.Text, err)
	base, err := gname.Parse("dns:Example.org")
	fmt.Println(base.Text, err)
	fmt.Println(gname.Match(pattern, www), gname.Match(www, pattern), gname.Same(pattern, www), gname.Same(www, www))
	fmt.Println(gname.Within(www, base), gname.Within(base, www), gname.Within(api.GeneralName{Kind: api.NameMail, Text: "ann@example.org"}, base))

	s, err := gname.Format(pattern)
	fmt.Println(s, err)
	for _, s := range []string{"mail:ann@example.org", "dir:CN=Web Server,O=Example", "ip:0a000000ff000000", "dns:"} {
		g, err := gname.Parse(s)
		back, _ := gname.Format(g)
		fmt.Println(g.Kind, back == s, err)
	}
	_, err = gname.Parse("ip:7F000001")
	fmt.Println(err == api.ErrSyntax)
	_, err = gname.Parse("mail:")
	fmt.Println(err == api.ErrName)
	// Output:
	// 0 0 true 0
	// 82 03 61 2e 62 0
	// a.b 0
	// 82 0f 77 77 77 2e
	// "\x82\x0fwww.example.org\x87\x04\x7f\x00\x00\x01" 0
	// 2 true 0
	// true
	// *.example.org 0
	// Example.org 0
	// true false false true
	// true false false
	// dns:\2a.example.org 0
	// 1 true 0
	// 4 true 0
	// 7 true 0
	// 2 true 0
	// true
	// true
}
