package gname

import (
	"strings"

	"certpath/api"
	"certpath/dname"
	"certpath/hash"
	"certpath/text"
)

// Format returns a general name as text. Besides the kind it looks only at what it writes, so that it also has texts for general names that Check refuses.
func Format(g api.GeneralName) (string, api.Errno) {
	k := kindOf(g)
	if k == unknown {
		return "", api.ErrName
	}
	rest, err := formatRest(k, g)
	if err != api.OK {
		return "", err
	}
	return kinds[k].word + rest, api.OK
}

// formatRest returns what is written behind the word of a kind.
func formatRest(k kind, g api.GeneralName) (string, api.Errno) {
	switch k {
	case directory:
		return dname.Format(g.Name)
	case address:
		return hash.Hex(g.Text), api.OK
	}
	return text.Escape(g.Text), api.OK
}

// Parse returns the general name, or the constraint, that a text denotes.
func Parse(s string) (api.GeneralName, api.Errno) {
	k, rest := cutWord(s)
	g, err := parseRest(k, rest)
	if err == api.OK {
		err = checkEither(g)
	}
	if err != api.OK {
		return api.GeneralName{}, err
	}
	return g, api.OK
}

// cutWord returns the kind with whose word s begins, and what is behind it.
func cutWord(s string) (kind, string) {
	for k, row := range kinds {
		if rest, found := strings.CutPrefix(s, row.word); found {
			return kind(k), rest
		}
	}
	return unknown, ""
}

// parseRest returns the general name for which s is written behind the word of a kind. Check may refuse it.
func parseRest(k kind, s string) (api.GeneralName, api.Errno) {
	var value string
	ok := false
	switch k {
	case directory:
		n, err := dname.Parse(s)
		return api.GeneralName{Kind: api.NameDirectory, Name: n}, err
	case mail, dns:
		value, ok = text.Unescape(s)
	case address:
		value, ok = hash.Unhex(s)
	}
	if !ok {
		return api.GeneralName{}, api.ErrSyntax
	}
	return api.GeneralName{Kind: kinds[k].number, Text: value}, api.OK
}

// checkEither returns the error of Check for g, unless g is valid as a constraint.
func checkEither(g api.GeneralName) api.Errno {
	err := Check(g, false)
	if err != api.OK && Check(g, true) == api.OK {
		return api.OK
	}
	return err
}
