package dname

import (
	"slices"
	"strings"

	"certpath/api"
	"certpath/oid"
	"certpath/text"
)

// What stands between the parts of a text; text.Escape leaves none of them in a value.
const (
	betweenRelatives  = ","
	betweenAttributes = "+"
	behindType        = "="
)

// shortTypes are the types that are not written as object identifiers.
var shortTypes = [...]struct{ short, id string }{
	{"CN", api.OIDCommonName},
	{"C", api.OIDCountry},
	{"L", api.OIDLocality},
	{"O", api.OIDOrganization},
	{"OU", api.OIDUnit},
	{"DC", api.OIDDomain},
	{"E", api.OIDMail},
}

// Format returns a name as text.
func Format(n api.Name) (string, api.Errno) {
	if err := Check(n); err != api.OK {
		return "", err
	}
	return join(n, formatRelative), api.OK
}

// formatRelative returns the texts of the attributes of a valid relative name, in ascending order of their encodings.
func formatRelative(r []api.Attribute) []string {
	sorted := slices.Clone(r)
	slices.SortFunc(sorted, func(a, b api.Attribute) int {
		return strings.Compare(encodeAttribute(a), encodeAttribute(b))
	})
	l := make([]string, len(sorted))
	for i, a := range sorted {
		l[i] = assign(shortOf(a.Type), a.Value)
	}
	return l
}

// join returns the text of a name whose attributes have the texts that parts returns for each relative name.
func join(n api.Name, parts func(r []api.Attribute) []string) string {
	l := make([]string, len(n.RDNs))
	for i, r := range n.RDNs {
		l[i] = strings.Join(parts(r), betweenAttributes)
	}
	return strings.Join(l, betweenRelatives)
}

// assign returns the text of an attribute whose type is written as word.
func assign(word, value string) string {
	return word + behindType + text.Escape(value)
}

// shortOf returns what is written for a type.
func shortOf(id string) string {
	for _, t := range shortTypes {
		if t.id == id {
			return t.short
		}
	}
	return id
}

// Parse returns the name that a text denotes. The form of the whole text comes before the error of Check.
func Parse(s string) (api.Name, api.Errno) {
	n, ok := parseName(s)
	if !ok {
		return api.Name{}, api.ErrSyntax
	}
	if err := Check(n); err != api.OK {
		return api.Name{}, err
	}
	return n, api.OK
}

// parseName returns the name that s says, which Check may refuse, and whether s has the form of a name.
func parseName(s string) (api.Name, bool) {
	if s == "" { // strings.Split would return a relative name without a text
		return api.Name{}, true
	}
	var n api.Name
	for _, part := range strings.Split(s, betweenRelatives) {
		r, ok := parseRelative(part)
		if !ok {
			return api.Name{}, false
		}
		n.RDNs = append(n.RDNs, r)
	}
	return n, true
}

// parseRelative returns the relative name that s says, and whether s has the form of one.
func parseRelative(s string) ([]api.Attribute, bool) {
	var r []api.Attribute
	for _, part := range strings.Split(s, betweenAttributes) {
		a, ok := parseAttribute(part)
		if !ok {
			return nil, false
		}
		r = append(r, a)
	}
	return r, true
}

// parseAttribute returns the attribute that s says, and whether s has the form of one.
func parseAttribute(s string) (api.Attribute, bool) {
	word, escaped, found := strings.Cut(s, behindType)
	id, known := typeOf(word)
	value, ok := text.Unescape(escaped)
	if !found || !known || !ok {
		return api.Attribute{}, false
	}
	return api.Attribute{Type: id, Kind: kindOf(id, value), Value: value}, true
}

// typeOf returns the type that is written as word, and whether there is one.
func typeOf(word string) (string, bool) {
	for _, t := range shortTypes {
		if t.short == word {
			return t.id, true
		}
	}
	return word, oid.Valid(word)
}

// kindOf returns the identifier octet that a value gets which is written as text.
func kindOf(id, value string) int {
	switch {
	case id == api.OIDDomain || id == api.OIDMail:
		return api.TagIA5
	case text.Valid(api.TagPrintable, value):
		return api.TagPrintable
	}
	return api.TagUTF8
}
