package dname_test

import (
	"fmt"

	"certpath/api"
	"certpath/dname"
)

// The example of README.md, with those of the chapter.
func Example() {
	n, err := dname.Parse("CN=Web Server,O=Example")
	fmt.Println(len(n.RDNs), n.RDNs[1][0], err)
	s, err := dname.Format(api.Name{RDNs: [][]api.Attribute{{{Type: api.OIDOrganization, Kind: api.TagPrintable, Value: "A, B"}, {Type: api.OIDCountry, Kind: api.TagPrintable, Value: "AA"}}}})
	fmt.Println(s, err)
	_, err = dname.Parse("cn=Web Server")
	fmt.Println(err == api.ErrSyntax)
	_, err = dname.Parse("CN=a+CN=b")
	fmt.Println(err == api.ErrDuplicate)

	b, err := dname.Encode(n)
	fmt.Printf("%x %d\n", b, err)
	again, err := dname.Decode(b)
	fmt.Println(dname.Match(again, n), err)
	fmt.Println(dname.Check(api.Name{}) == api.OK, dname.Check(api.Name{RDNs: [][]api.Attribute{{}}}) == api.ErrName)

	upper, _ := dname.Parse("CN=WEB  SERVER,O=EXAMPLE")
	base, _ := dname.Parse("CN=Web Server")
	fmt.Println(dname.Match(n, upper), dname.Key(n) == dname.Key(upper))
	fmt.Println(dname.Within(n, base), dname.Within(base, n), dname.Within(n, api.Name{}))
	// Output:
	// 2 {2.5.4.10 19 Example} 0
	// C=AA+O=A\2c B 0
	// true
	// true
	// 3027311330110603550403130a576562205365727665723110300e060355040a13074578616d706c65 0
	// true 0
	// true true
	// true true
	// true false true
}
