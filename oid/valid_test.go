package oid_test

import (
	"math/rand"
	"strconv"
	"strings"
	"testing"

	"certpath/api"
	"certpath/oid"
)

// checkValid compares Valid with P4.1.
func checkValid(t *testing.T, s string) {
	t.Helper()
	if _, want := arcs(s); oid.Valid(s) != want {
		t.Fatalf("Valid(%.100q) is %v", s, !want)
	}
}

// TestValidKnown: P4.1, texts that are object identifiers and texts that are none.
func TestValidKnown(t *testing.T) {
	for _, s := range append(some(), "0.0", "0.39", "1.0", "1.39", "2.0", "2.39", "2.40", "2.80", "2.999", "2.2147483647", "1.2.0", "1.2.2147483647") {
		if !oid.Valid(s) {
			t.Errorf("Valid(%q) is false", s)
		}
	}
	for _, s := range append(long(), invalid...) {
		if oid.Valid(s) {
			t.Errorf("Valid(%.100q) is true", s)
		}
	}
}

// TestValidConstants: P4.1, the object identifiers of package api.
func TestValidConstants(t *testing.T) {
	for _, s := range []string{
		api.OIDAlgorithm, api.OIDCommonName, api.OIDCountry, api.OIDLocality, api.OIDOrganization, api.OIDUnit, api.OIDDomain, api.OIDMail,
		api.OIDSubjectKey, api.OIDKeyUsage, api.OIDAltName, api.OIDBasic, api.OIDListNumber, api.OIDReason, api.OIDInvalidity, api.OIDDelta,
		api.OIDIssuingPoint, api.OIDEntryIssuer, api.OIDConstraints, api.OIDPoints, api.OIDPolicies, api.OIDAnyPolicy, api.OIDMappings,
		api.OIDAuthorityKey, api.OIDPolicyLimits, api.OIDPurposes, api.OIDAnyPurpose, api.OIDFreshest, api.OIDInhibitAny,
		api.OIDServer, api.OIDClient, api.OIDCode, api.OIDProtectedMail,
	} {
		if !oid.Valid(s) {
			t.Errorf("Valid(%q) is false", s)
		}
	}
}

// TestValidCounts: P4.1, every number of arcs up to some more than MaxArcs, with short and with the longest arcs.
func TestValidCounts(t *testing.T) {
	for count := 1; count < 2*api.MaxArcs; count++ {
		for _, arc := range []string{".0", ".39", ".2147483647"} {
			s := "2" + strings.Repeat(arc, count-1)
			if want := count >= 2 && count <= api.MaxArcs; oid.Valid(s) != want {
				t.Errorf("Valid(%q) is %v", s, !want)
			}
		}
	}
}

// TestValidSecond: P4.1, every second arc about 40, and about the greatest arc, with every first arc up to some more than 2.
func TestValidSecond(t *testing.T) {
	for first := range 130 {
		for second := range 130 {
			checkValid(t, strconv.Itoa(first)+"."+strconv.Itoa(second))
		}
		for second := api.MaxArc - 100; second < api.MaxArc+100; second++ {
			checkValid(t, strconv.Itoa(first)+"."+strconv.Itoa(second))
		}
	}
}

// TestValidShort: P4.1, every text of up to six of the bytes that matter.
func TestValidShort(t *testing.T) {
	const bytes = ".01249/:+"
	var extend func(s string)
	extend = func(s string) {
		checkValid(t, s)
		if len(s) < 6 {
			for i := range len(bytes) {
				extend(s + bytes[i:i+1])
			}
		}
	}
	extend("")
}

// TestValidBytes: P4.1, every byte at every place of a text, instead of the one there and before it.
func TestValidBytes(t *testing.T) {
	for _, s := range []string{"1.2", "2.5.29.32.0", "1.2.2147483647", "0.39.10"} {
		for i := range len(s) + 1 {
			for b := range 256 {
				checkValid(t, s[:i]+string([]byte{byte(b)})+s[i:])
				if i < len(s) {
					checkValid(t, s[:i]+string([]byte{byte(b)})+s[i+1:])
				}
			}
		}
	}
}

// TestValidRandom: P4.1, random object identifiers, whole and with a part replaced.
func TestValidRandom(t *testing.T) {
	r := rand.New(rand.NewSource(1))
	parts := []string{"", "0", "1", "00", "01", ".", "..", ".0", "2147483648", ".2147483648", "9999999999", "+", "-1", " ", "4294967296"}
	for range 30000 {
		s := random(r)
		if !oid.Valid(s) {
			t.Fatalf("Valid(%q) is false", s)
		}
		i := r.Intn(len(s) + 1)
		j := i + r.Intn(len(s)+1-i)
		checkValid(t, s[:i]+s[j:])
		checkValid(t, s[:i]+parts[r.Intn(len(parts))]+s[j:])
		checkValid(t, s[:i]+parts[r.Intn(len(parts))]+s[i:])
	}
}
