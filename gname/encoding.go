package gname

import (
	"strings"

	"certpath/api"
	"certpath/dname"
	"certpath/tlv"
)

// Encode returns the whole element of a general name.
func Encode(g api.GeneralName, constraint bool) (string, api.Errno) {
	if err := Check(g, constraint); err != api.OK {
		return "", err
	}
	k := kindOf(g)
	contents := g.Text
	if k == directory {
		contents, _ = dname.Encode(g.Name) // there is no error, since Check found none
	}
	return tlv.Wrap(kinds[k].tag, contents)
}

// Decode returns the general name of an element.
func Decode(e api.Element, constraint bool) (api.GeneralName, api.Errno) {
	g, err := decodeParts(e)
	if err == api.OK {
		err = Check(g, constraint)
	}
	if err != api.OK {
		return api.GeneralName{}, err
	}
	return g, api.OK
}

// decodeParts returns the general name that an element says, which Check may refuse.
func decodeParts(e api.Element) (api.GeneralName, api.Errno) {
	k := taggedKind(e.Tag)
	switch k {
	case unknown:
		return api.GeneralName{}, api.ErrTag
	case directory:
		n, err := dname.Decode(e.Content)
		return api.GeneralName{Kind: api.NameDirectory, Name: n}, err
	}
	return api.GeneralName{Kind: kinds[k].number, Text: e.Content}, api.OK
}

// taggedKind returns the kind whose elements have this identifier octet.
func taggedKind(tag int) kind {
	for k, row := range kinds {
		if row.tag == tag {
			return kind(k)
		}
	}
	return unknown
}

// EncodeList returns the elements of general names, one after the other.
func EncodeList(l []api.GeneralName) (string, api.Errno) {
	if err := checkNumber(len(l)); err != api.OK {
		return "", err
	}
	var b strings.Builder
	for _, g := range l {
		element, err := Encode(g, false)
		if err != api.OK {
			return "", err
		}
		b.WriteString(element)
	}
	return b.String(), api.OK
}

// DecodeList returns the general names of such elements.
func DecodeList(contents string) ([]api.GeneralName, api.Errno) {
	elements, err := tlv.List(contents)
	if err == api.OK {
		err = checkNumber(len(elements))
	}
	if err != api.OK {
		return nil, err
	}
	l := make([]api.GeneralName, len(elements))
	for i, e := range elements {
		if l[i], err = Decode(e, false); err != api.OK {
			return nil, err
		}
	}
	return l, api.OK
}

// checkNumber returns the error of a list of n general names.
func checkNumber(n int) api.Errno {
	switch {
	case n == 0:
		return api.ErrValue
	case n > api.MaxNames:
		return api.ErrLimit
	}
	return api.OK
}
