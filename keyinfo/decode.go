package keyinfo

import (
	"certpath/api"
	"certpath/merkle"
	"certpath/prim"
	"certpath/tlv"
)

// Places of the parts of a key in the bytes of its bit string, which begin with the height.
const (
	idAt   = 1
	rootAt = idAt + api.DigestSize
	size   = rootAt + api.DigestSize
)

// Decode returns the key whose encoding is b.
func Decode(b string) (api.Key, api.Errno) {
	e, err := tlv.One(b)
	if err != api.OK {
		return api.Key{}, err
	}
	l, err := divide(e)
	if err != api.OK {
		return api.Key{}, err
	}
	var d decoder
	if err = d.decode(l); err != api.OK {
		return api.Key{}, err
	}
	return d.key, api.OK
}

// divide returns the elements of which a sequence consists.
func divide(e api.Element) ([]api.Element, api.Errno) {
	if e.Tag != api.TagSequence {
		return nil, api.ErrTag
	}
	return tlv.List(e.Content)
}

// decoder takes the key out of the parts of an encoding.
type decoder struct{ key api.Key }

// decode takes the parts, all of which are required, in their order.
func (d *decoder) decode(l []api.Element) api.Errno {
	parts := []func(*decoder, api.Element) api.Errno{(*decoder).takeAlgorithm, (*decoder).takeBits}
	for i, take := range parts {
		if i >= len(l) {
			return api.ErrTruncated
		}
		if err := take(d, l[i]); err != api.OK {
			return err
		}
	}
	if len(l) > len(parts) {
		return api.ErrTrailing
	}
	return api.OK
}

// takeAlgorithm takes the first part, in which there is only one thing that it may say.
func (d *decoder) takeAlgorithm(e api.Element) api.Errno {
	return CheckAlgorithm(e)
}

// takeBits takes the second part.
func (d *decoder) takeBits(e api.Element) api.Errno {
	if e.Tag != api.TagBits {
		return api.ErrTag
	}
	b, unused, err := prim.Bits(e.Content)
	switch {
	case err != api.OK:
		return err
	case unused != 0 || len(b) != size:
		return api.ErrKey
	}
	d.key = api.Key{Height: int(b[0]), ID: b[idAt:rootAt], Root: b[rootAt:]}
	return merkle.Check(d.key)
}
