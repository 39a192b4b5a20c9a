package subtree

import (
	"certpath/api"
	"certpath/gname"
	"certpath/tlv"
)

// Identifier octets of the two parts.
const (
	tagPermitted = api.TagExplicit
	tagExcluded  = api.TagExplicit + 1
)

// Encode returns the whole element of name constraints.
func Encode(s api.Subtrees) (string, api.Errno) {
	if err := Check(s); err != api.OK {
		return "", err
	}
	permitted, err := encodePart(tagPermitted, s.Permitted)
	if err != api.OK {
		return "", err
	}
	excluded, err := encodePart(tagExcluded, s.Excluded)
	if err != api.OK {
		return "", err
	}
	return wrap(api.TagSequence, permitted, excluded)
}

// encodePart returns the element of a part, or nothing if it has no subtrees.
func encodePart(tag int, l []api.GeneralName) (string, api.Errno) {
	if len(l) == 0 {
		return "", api.OK
	}
	elements, err := convert(l, encodeSubtree)
	if err != api.OK {
		return "", err
	}
	return wrap(tag, elements...)
}

// encodeSubtree returns the element of one subtree.
func encodeSubtree(g api.GeneralName) (string, api.Errno) {
	b, err := gname.Encode(g, true)
	if err != api.OK {
		return "", err
	}
	return wrap(api.TagSequence, b)
}

// wrap is tlv.Wrap with the error that name constraints have for contents that are too long.
func wrap(tag int, contents ...string) (string, api.Errno) {
	b, err := tlv.Wrap(tag, contents...)
	if err != api.OK {
		return "", api.ErrLimit
	}
	return b, api.OK
}

// convert returns what f makes of the elements of l, or its first error.
func convert[From, To any](l []From, f func(From) (To, api.Errno)) ([]To, api.Errno) {
	converted := make([]To, len(l))
	for i, x := range l {
		var err api.Errno
		if converted[i], err = f(x); err != api.OK {
			return nil, err
		}
	}
	return converted, api.OK
}

// Decode returns the name constraints whose encoding is b.
func Decode(b string) (api.Subtrees, api.Errno) {
	s, err := decodeParts(b)
	if err == api.OK {
		err = Check(s)
	}
	if err != api.OK {
		return api.Subtrees{}, err
	}
	return s, api.OK
}

// decodeParts returns the name constraints that b says, which Check may refuse.
func decodeParts(b string) (api.Subtrees, api.Errno) {
	e, err := tlv.One(b)
	if err != api.OK {
		return api.Subtrees{}, err
	}
	l, err := divide(e)
	if err != api.OK {
		return api.Subtrees{}, err
	}
	permitted, l, err := cutPart(l, tagPermitted)
	if err != api.OK {
		return api.Subtrees{}, err
	}
	excluded, l, err := cutPart(l, tagExcluded)
	if err != api.OK {
		return api.Subtrees{}, err
	}
	if len(l) > 0 {
		return api.Subtrees{}, api.ErrTrailing
	}
	return api.Subtrees{Permitted: permitted, Excluded: excluded}, api.OK
}

// divide returns the elements of which a sequence consists.
func divide(e api.Element) ([]api.Element, api.Errno) {
	if e.Tag != api.TagSequence {
		return nil, api.ErrTag
	}
	return tlv.List(e.Content)
}

// cutPart returns the subtrees of a part, of which there are none if l does not begin with it, and the elements behind it.
func cutPart(l []api.Element, tag int) ([]api.GeneralName, []api.Element, api.Errno) {
	if len(l) == 0 || l[0].Tag != tag {
		return nil, l, api.OK
	}
	elements, err := tlv.List(l[0].Content)
	if err == api.OK && len(elements) == 0 {
		err = api.ErrValue
	}
	if err != api.OK {
		return nil, nil, err
	}
	bases, err := convert(elements, decodeSubtree)
	return bases, l[1:], err
}

// decodeSubtree returns the base of one subtree.
func decodeSubtree(e api.Element) (api.GeneralName, api.Errno) {
	l, err := divide(e)
	if err == api.OK && len(l) == 0 {
		err = api.ErrTruncated
	}
	if err != api.OK {
		return api.GeneralName{}, err
	}
	g, err := gname.Decode(l[0], true)
	if err == api.OK && len(l) > 1 {
		err = api.ErrTrailing
	}
	return g, err
}
