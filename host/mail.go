package host

import (
	"strings"

	"certpath/api"
)

const (
	maxLocal = 64 // bytes of a local part
	at       = "@"
	special  = "!#$%&'*+-/=?^_`{|}~." // what a local part has besides letters and digits
)

// Mail reports whether s is a mail address.
func Mail(s string) bool {
	local, domain, found := strings.Cut(s, at)
	return found && len(s) <= api.MaxHost && isLocal(local) && DNS(domain)
}

// isLocal reports whether s is what stands before the @ of a mail address.
func isLocal(s string) bool {
	if s == "" || len(s) > maxLocal || strings.HasPrefix(s, point) || strings.HasSuffix(s, point) {
		return false
	}
	return !strings.Contains(s, point+point) && consists(s, isLocalByte)
}

func isLocalByte(c byte) bool {
	return isAlphanumeric(c) || strings.IndexByte(special, c) >= 0
}

// MailBase reports whether s can be a base of MailWithin: a mail address, those of a DNS name, or those of the names below it.
func MailBase(s string) bool {
	return Mail(s) || len(s) <= api.MaxHost && DNS(strings.TrimPrefix(s, point))
}

// MailMatch reports whether two mail addresses are the same; only their DNS names ignore case.
func MailMatch(a, b string) bool {
	if !Mail(a) || !Mail(b) {
		return false
	}
	localA, domainA, _ := strings.Cut(a, at)
	localB, domainB, _ := strings.Cut(b, at)
	return localA == localB && equal(domainA, domainB)
}

// MailWithin reports whether the mail address s, or every one of the base s, is one of a base.
func MailWithin(s, base string) bool {
	switch {
	case !MailBase(s) || !MailBase(base):
		return false
	case Mail(base):
		return MailMatch(s, base)
	case Mail(s):
		_, domain, _ := strings.Cut(s, at)
		return domainWithin(domain, base)
	}
	return domainWithin(s, base)
}

// domainWithin reports whether a DNS name, or a base that begins with a point, is equal to a base, or below one that begins with a point.
func domainWithin(s, base string) bool {
	return equal(s, base) || strings.HasPrefix(base, point) && ends(s, base)
}
