package redex_test

import (
	"strings"
	"testing"

	"redex/api"
	"redex/redex"
)

// The grammar of the document, word for word, over texts in which each token is one byte. Each
// function answers every place at which its part may end if it begins at a given one.

func program(s string, at []int) []int {
	var ends []int
	for len(at) > 0 {
		at = definition(s, at)
		ends = append(ends, at...)
	}
	return ends
}

func definition(s string, at []int) []int {
	names := one(s, at, "am")
	all := names
	for len(names) > 0 {
		names = one(s, names, "am")
		all = append(all, names...)
	}
	return one(s, application(s, one(s, all, "=")), ";")
}

func application(s string, at []int) []int {
	if len(at) == 0 {
		return nil
	}
	parts := one(s, at, "am1+")
	all := parts
	for len(parts) > 0 {
		inner := one(s, application(s, one(s, parts, "(")), ")")
		parts = append(one(s, parts, "am1+"), inner...)
		all = append(all, parts...)
	}
	return all
}

func one(s string, at []int, set string) []int {
	var ends []int
	for _, i := range at {
		if i < len(s) && strings.IndexByte(set, s[i]) >= 0 {
			ends = append(ends, i+1)
		}
	}
	return ends
}

func isGrammatical(s string) bool {
	for _, end := range program(s, []int{0}) {
		if end == len(s) {
			return true
		}
	}
	return false
}

// isBegun: whether the text is the beginning of a grammatical one. What is missing is at most a
// definition, or its rest from some point on.
func isBegun(s string) bool {
	closing := strings.Repeat(")", strings.Count(s, "("))
	for n := range len(closing) + 1 {
		for _, rest := range []string{"", "1"} {
			if isGrammatical(s + rest + closing[:n] + ";") {
				return true
			}
		}
	}
	return isGrammatical(s) || isGrammatical(s+"a=1;") || isGrammatical(s+"=1;")
}

// spaced: the text with a blank behind each token, so that none grows into the next.
func spaced(s string) string {
	return strings.Join(strings.Split(s, ""), " ")
}

// TestP3Grammar goes through all texts of a few tokens, too few to pass a bound.
func TestP3Grammar(t *testing.T) {
	for _, start := range []string{"", "m=", "ma=1(a", "m=1;"} {
		begun := []string{start}
		for range 6 {
			var longer []string
			for _, s := range begun {
				longer = append(longer, goOn(t, s)...)
			}
			begun = longer
		}
		if len(begun) < 100 {
			t.Errorf("only %d texts that begin with %q", len(begun), start)
		}
	}
}

// goOn checks each text that is one token longer, and answers those whose last token may stand.
func goOn(t *testing.T, s string) []string {
	t.Helper()
	var longer []string
	for _, next := range strings.Split("am1+=;()A", "") {
		u := s + next
		src := spaced(u)
		at, e := redex.Check(src)
		want := len(src)
		if isBegun(u) {
			longer = append(longer, u)
		} else {
			want = len(src) - 1
		}
		if isGrammatical(u) {
			if e == api.ErrText || e == api.ErrLimit {
				t.Fatalf("P3: Check(%q) = %d, %d, but it is grammatical", src, at, e)
			}
		} else if at != want || e != api.ErrText {
			t.Fatalf("P3: Check(%q) = %d, %d, want %d, %d", src, at, e, want, api.ErrText)
		}
	}
	return longer
}
