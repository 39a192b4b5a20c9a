package host_test

import (
	"fmt"

	"certpath/host"
)

// The example of README.md, with those of the chapter.
func Example() {
	fmt.Println(host.DNS("Mail.Example.org"), host.DNS("*.example.org"), host.DNS("a..b"))
	fmt.Println(host.Pattern("*.example.org"), host.Pattern("*.org"))
	fmt.Println(host.DNSMatch("*.example.org", "mail.EXAMPLE.org"), host.DNSMatch("*.example.org", "a.b.example.org"))
	fmt.Println(host.DNSWithin("Mail.Example.org", "example.org"), host.DNSWithin("myexample.org", "example.org"))
	fmt.Println(host.DNSWithin("*.example.org", "example.org"), host.DNSWithin("example.org", ""))

	fmt.Println(host.Mail("ann@example.org"), host.MailBase(".example.org"))
	fmt.Println(host.MailMatch("ann@example.org", "ann@EXAMPLE.org"), host.MailMatch("ann@example.org", "Ann@example.org"))
	fmt.Println(host.MailWithin("ann@example.org", ".example.org"), host.MailWithin("ann@example.org", "example.org"))
	fmt.Println(host.MailWithin("mail.example.org", ".example.org"))

	ten := "\x0a\x00\x00\x00\xff\x00\x00\x00"
	fmt.Println(host.Address("\x0a\x01\x02\x03"), host.Range(ten), host.Range("\x0a\x01\x00\x00\xff\x00\x00\x00"))
	fmt.Println(host.AddressWithin("\x0a\x01\x02\x03", ten), host.AddressWithin("\x0a\x01\x00\x00\xff\xff\x00\x00", ten))
	// Output:
	// true false false
	// true false
	// true false
	// true false
	// true true
	// true true
	// true false
	// false true
	// true
	// true true false
	// true true
}
