package dname

import (
	"slices"

	"certpath/api"
	"certpath/oid"
	"certpath/tlv"
)

// Encode returns the whole element of a name.
func Encode(n api.Name) (string, api.Errno) {
	if err := Check(n); err != api.OK {
		return "", err
	}
	sets := make([]string, len(n.RDNs))
	for i, r := range n.RDNs {
		sets[i] = encodeRelative(r)
	}
	return wrap(api.TagSequence, sets...), api.OK
}

// encodeRelative returns the element of a valid relative name.
func encodeRelative(r []api.Attribute) string {
	l := make([]string, len(r))
	for i, a := range r {
		l[i] = encodeAttribute(a)
	}
	return wrap(api.TagSet, tlv.Order(l...))
}

// encodeAttribute returns the element of a valid attribute.
func encodeAttribute(a api.Attribute) string {
	id, _ := oid.Encode(a.Type)
	return wrap(api.TagSequence, wrap(api.TagOID, id), wrap(a.Kind, a.Value))
}

// wrap is tlv.Wrap without an error, since there is none for the parts of a valid name: the kinds of strings are identifier octets, and the limits of names keep their contents far below MaxBytes.
func wrap(tag int, contents ...string) string {
	b, _ := tlv.Wrap(tag, contents...)
	return b
}

// Decode returns the name whose encoding is b.
func Decode(b string) (api.Name, api.Errno) {
	n, err := decodeName(b)
	if err == api.OK {
		err = Check(n)
	}
	if err != api.OK {
		return api.Name{}, err
	}
	return n, api.OK
}

// decodeName returns the name that b says, which Check may refuse.
func decodeName(b string) (api.Name, api.Errno) {
	e, err := tlv.One(b)
	if err != api.OK {
		return api.Name{}, err
	}
	if e.Tag != api.TagSequence {
		return api.Name{}, api.ErrTag
	}
	sets, err := tlv.List(e.Content)
	if err != api.OK {
		return api.Name{}, err
	}
	n := api.Name{RDNs: make([][]api.Attribute, len(sets))}
	for i, set := range sets {
		if n.RDNs[i], err = decodeRelative(set); err != api.OK {
			return api.Name{}, err
		}
	}
	return n, api.OK
}

// decodeRelative returns the relative name of an element.
func decodeRelative(e api.Element) ([]api.Attribute, api.Errno) {
	if e.Tag != api.TagSet {
		return nil, api.ErrTag
	}
	l, err := tlv.List(e.Content)
	if err != api.OK {
		return nil, err
	}
	if !tlv.Ascending(l) {
		return nil, api.ErrOrder
	}
	r := make([]api.Attribute, len(l))
	for i, a := range l {
		if r[i], err = decodeAttribute(a); err != api.OK {
			return nil, err
		}
	}
	return r, api.OK
}

// decodeAttribute returns the attribute of an element.
func decodeAttribute(e api.Element) (api.Attribute, api.Errno) {
	if e.Tag != api.TagSequence {
		return api.Attribute{}, api.ErrTag
	}
	l, err := tlv.List(e.Content)
	if err != api.OK {
		return api.Attribute{}, err
	}
	// next takes the next element out of l.
	next := func(tags ...int) (api.Element, api.Errno) {
		if len(l) == 0 {
			return api.Element{}, api.ErrTruncated
		}
		part := l[0]
		if !slices.Contains(tags, part.Tag) {
			return api.Element{}, api.ErrTag
		}
		l = l[1:]
		return part, api.OK
	}
	first, err := next(api.TagOID)
	if err != api.OK {
		return api.Attribute{}, err
	}
	id, err := oid.Decode(first.Content)
	if err != api.OK {
		return api.Attribute{}, err
	}
	value, err := next(api.TagUTF8, api.TagPrintable, api.TagIA5)
	if err != api.OK {
		return api.Attribute{}, err
	}
	if len(l) > 0 {
		return api.Attribute{}, api.ErrTrailing
	}
	return api.Attribute{Type: id, Kind: value.Tag, Value: value.Content}, api.OK
}
