package redex_test

import (
	"strings"
	"testing"

	"redex/api"
	"redex/redex"
)

// place: a source text, and what Check is to tell of it.
type place struct {
	src string
	at  int
	e   api.Errno
}

func checkPlaces(t *testing.T, promise string, list []place) {
	t.Helper()
	for _, x := range list {
		at, e := redex.Check(x.src)
		if at != x.at || e != x.e {
			t.Errorf("%s: Check(%.80q) = %d, %d, want %d, %d", promise, x.src, at, e, x.at, x.e)
		}
	}
}

// faultAt: the text with its one mark | taken out, and the error at the mark's place.
func faultAt(t *testing.T, marked string, e api.Errno) place {
	t.Helper()
	if strings.Count(marked, "|") != 1 {
		t.Fatalf("no single mark in %q", marked)
	}
	at := strings.Index(marked, "|")
	return place{marked[:at] + marked[at+1:], at, e}
}

func faultsAt(t *testing.T, e api.Errno, marked []string) {
	t.Helper()
	for _, m := range marked {
		checkPlaces(t, "P3", []place{faultAt(t, m, e)})
	}
}

// functions: n definitions with names of their own, a line each.
func functions(n int) string {
	text := ""
	for i := range n {
		text += "f" + string(rune('a'+i)) + "=1;\n"
	}
	return text
}

// nested: n opening parentheses, each with a head and the next one behind it.
func nested(n int) string {
	return strings.Repeat("(f ", n)
}

func TestP3Examples(t *testing.T) {
	checkPlaces(t, "P3", []place{
		{"main = 1;", 0, api.OK},
		{"", 0, api.ErrText},
		{"main = ;", 7, api.ErrText},
		{"main = 1", 8, api.ErrText},
		{"main = (1) 2;", 7, api.ErrText},
		{"main = f (1) 2; f x y = y;", 0, api.OK},
		{"main = 1234567;", 7, api.ErrText},
		{"Main = 1;", 0, api.ErrText},
		{"main = x;", 7, api.ErrName},
		{"f x x = 1; main = 2;", 4, api.ErrTwice},
		{"f = 1; f = 2;", 7, api.ErrTwice},
		{"f = 1;", 0, api.ErrMain},
		{"main x = x;", 0, api.ErrMain},
		{"main = f 1 2 3 4 5 6 7 8;", 23, api.ErrLimit},
		{"main a b c d e f g = 1;", 17, api.ErrLimit},
	})
}

func TestP3Programs(t *testing.T) {
	for _, src := range []string{
		"main=1;",
		"\n main\n\n = \n1 ; \n",
		"main = 1a; a = 2;",
		"main = a1b2; a1b2 = 0;",
		"main=+-*<?;",
		"main=+1(-2(*3(<(?))));",
		"main = f; f x = g x; g y = f y;",
		"main = main;",
		"a = main; main = a;",
		"f f = f; main = f;",
		"f main = main; main = f;",
		"f x = x; g x = x; main = f;",
		"f x = 1; x = f; main = x;",
		"mai = 1; main = 1; mainn = 1; main1 = 1;",
	} {
		checkPlaces(t, "P3", []place{{src, 0, api.OK}})
	}
}

// Each bound is met.
func TestP3BoundsMet(t *testing.T) {
	for _, src := range []string{
		"main = 1;" + strings.Repeat(" ", api.MaxText-9),
		"main = abcdefgh; abcdefgh = 1;",
		"main = a2345678; a2345678 = 1;",
		"main = 123456 999999 000000;",
		functions(15) + "main = 1;",
		"main = f; f a b c d e g = g;",
		"main = 1; f a b c d e g = g; h a b c d e g = g;",
		"main = 1 2 3 4 5 6 7 8;",
		"main = 1 (1 2 3 4 5 6 7 8) 3 4 5 6 7 (1 2 3 4 5 6 7 8);",
		"f = f " + nested(12) + "1" + strings.Repeat(")", 12) + "; main = 1;",
		"f = f " + nested(12) + "(1)" + strings.Repeat(")", 12) + "; main = 1;",
		"main = 1 (1 1) (1 1) (1 1) (1 1) (1 1) (1 (1 1) (1 1) (1 1) (1 1) (1 1) (1 1));",
		"main = 1 (1 1) (1 1) (1 1) (1 1) (1 1) (1 (1 1) (1 1) (1 1) (1 1) (1 1) (1 1) (1)) (1);",
		"f = f " + nested(12) + "1" + strings.Repeat(")", 12) + "; main = f " + nested(12) + "1" + strings.Repeat(")", 12) + ";",
	} {
		checkPlaces(t, "P3", []place{{src, 0, api.OK}})
	}
}

// A text of more than MaxText bytes is ErrLong and 0, whatever else is wrong with it.
func TestP3Long(t *testing.T) {
	for _, src := range []string{
		"main = 1;" + strings.Repeat(" ", api.MaxText-8),
		strings.Repeat(" ", api.MaxText+1),
		strings.Repeat("\xff", api.MaxText+1),
		"f = 1; f = 2;" + strings.Repeat("\n", api.MaxText),
		strings.Repeat("main = 1;", 1000000),
	} {
		checkPlaces(t, "P3", []place{{src, 0, api.ErrLong}})
	}
	checkPlaces(t, "P3", []place{
		{strings.Repeat(" ", api.MaxText), api.MaxText, api.ErrText},
		{strings.Repeat("\xff", api.MaxText), 0, api.ErrText},
	})
}

func TestP3CannotStand(t *testing.T) {
	faultsAt(t, api.ErrText, []string{
		"|1 = 1;", "|= 1;", "|;", "|(", "|)", "|+ = 1;", "main = 1; |;", "main = 1; |1 = 1;",
		"main |1 = 1;", "main |+ = 1;", "main |;", "main |(x) = 1;", "main x |) = 1;", "main x |?",
		"main = |;", "main = |= 1;", "main = |(1);", "main = |(1) 2;", "main = |) 2;",
		"main = 1 |= 1;", "main = 1 |);", "main = 1 1 |) 1;", "main = 1 (1 2) |);",
		"main = 1 (|);", "main = 1 (|;", "main = 1 (|(1));", "main = 1 (|= 1);",
		"main = 1 (1|;", "main = 1 (1 2|;", "main = 1 (1 (2)|; f = 1;", "main = 1 (1 |= 1);",
	})
}

// What is too long for a token, and a byte that no token begins with, can stand nowhere.
func TestP3BadTokens(t *testing.T) {
	faultsAt(t, api.ErrText, []string{
		"main = |1234567;", "main = |0000007;", "main = 123456 |1234567a;", "main = 1 (|0000000);",
		"main = |abcdefghi;", "main = |a23456789;", "|abcdefghi = 1;", "main |abcdefghi = 1;", "main = 1; |mainmainmain",
		"|Main = 1;", "m|Ain = 1;", "main|\t= 1;", "main = 1;|\r\n", "main = 1;\n|\x00", "main = |'1;",
		"main = 1 |# 2;", "main |:= 1;", "main = 1 |> 2;", "main = |\"a\";", "main = |{1};", "main = a|_b; a = 1; b = 1;",
		"main = |é;", "main = 1; |\xff", "main = 1 |/ 2;", "main = 1 |@ 2;", "main = |`1;",
	})
}

// Every byte, alone and inside an application.
func TestP3EveryByte(t *testing.T) {
	for b := range 256 {
		s := string([]byte{byte(b)})
		alone := place{s, 0, api.ErrText}
		inside := place{"main = 1 " + s + " 2;", 9, api.ErrText}
		switch {
		case b == ' ' || b == '\n':
			alone.at = 1
			inside = place{inside.src, 0, api.OK}
		case 'a' <= b && b <= 'z':
			alone.at = 1
			inside.e = api.ErrName
		case '0' <= b && b <= '9' || strings.Contains("+-*<?", s):
			inside = place{inside.src, 0, api.OK}
		case s == "(":
			inside.at = 12
		case s == ";":
			inside.at = 11
		}
		checkPlaces(t, "P3", []place{alone, inside})
	}
}

// The text ends too early: its length, blanks and all.
func TestP3EndsTooEarly(t *testing.T) {
	faultsAt(t, api.ErrText, []string{
		"|", " |", " \n\n |", "m|", "main|", "main |", "main x|", "main x y \n|", "main =|", "main = 1|", "main = 1 \n |",
		"main = 1 (|", "main = 1 (1|", "main = 1 (1 2|", "main = 1 (1 2)|", "main = 1 (1 (2)|",
		"main = 1; f|", "main = 1; f =|", "main = 1; f = f|", "f = 1; f = zz|",
	})
	full := "main = f (g 1 (g 2)) (g 3); f x y = + x y; g x = x;"
	for n := range len(full) {
		at, e := redex.Check(full[:n])
		ends := strings.HasSuffix(strings.TrimSpace(full[:n]), ";")
		if !ends && (at != n || e != api.ErrText) {
			t.Errorf("P3: Check(%q) = %d, %d, want %d, %d", full[:n], at, e, n, api.ErrText)
		}
		if ends && e != api.ErrName {
			t.Errorf("P3: Check(%q) = %d, %d, want the error %d", full[:n], at, e, api.ErrName)
		}
	}
}

// Each bound is passed by one.
func TestP3Limits(t *testing.T) {
	faultsAt(t, api.ErrLimit, []string{
		functions(15) + "main = 1; |f = 1;",
		functions(16) + "|main = 1;",
		functions(16) + "|main",
		"main a b c d e f |g = 1;",
		"main = 1; f a b c d e g |a",
		"main = 1 2 3 4 5 6 7 8 |9;",
		"main = 1 2 3 4 5 6 7 8 |x;",
		"main = 1 2 3 4 5 6 7 8 |+;",
		"main = 1 2 3 4 5 6 7 8 |(9);",
		"main = 1 2 3 4 5 6 7 8 |(",
		"main = 1 (1) (2) (3) (4) (5) (6) (7) |(8);",
		"main = 1 (1 2 3 4 5 6 7 8 |9);",
		"main = 1 (1 2) 3 4 5 6 7 (1 2 3 4 5 6 7 8) |9;",
		"main = f " + nested(12) + "(f |1",
		"main = f " + nested(12) + "(f |(1))",
		"main = f " + nested(12) + "(f |(",
		"main = 1 (1 1) (1 1) (1 1) (1 1) (1 1) (1 (1 1) (1 1) (1 1) (1 1) (1 1) (1 1)) (1 |1);",
		"main = 1 (1 1) (1 1) (1 1) (1 1) (1 1) (1 (1 1) (1 1) (1 1) (1 1) (1 1) (1 1)) (1 |(1));",
	})
}

// A token that cannot stand is ErrText, even where another one would pass a bound.
func TestP3TextAheadOfLimit(t *testing.T) {
	faultsAt(t, api.ErrText, []string{
		functions(16) + "|1",
		functions(16) + "|mainmain1 = 1;",
		"main a b c d e f |1",
		"main a b c d e f |abcdefghi",
		"main = 1 2 3 4 5 6 7 8 |);",
		"main = 1 2 3 4 5 6 7 8 |= 1;",
		"main = 1 2 3 4 5 6 7 8 |1234567;",
		"main = 1 2 3 4 5 6 7 8 |abcdefghi;",
		"main = 1 2 3 4 5 6 7 8 |A;",
		"main = f " + nested(12) + "(f |;",
		"main = f " + nested(12) + "(f |=;",
		"main = f " + nested(12) + "(f |A;",
		"main = f " + nested(12) + "(|(",
		"main = f " + nested(12) + "(|)",
	})
}

// Of faults of the tokens the first counts, whichever it is.
func TestP3FirstToken(t *testing.T) {
	faultsAt(t, api.ErrText, []string{"main = |A 2 3 4 5 6 7 8 9;", "main |1 a b c d e f g;", functions(15) + "main = |; f = 1;"})
	faultsAt(t, api.ErrLimit, []string{"main = 1 2 3 4 5 6 7 8 |9 A;", "main a b c d e f |g 1;", functions(16) + "|main = ;"})
}

func TestP3Twice(t *testing.T) {
	faultsAt(t, api.ErrTwice, []string{
		"main = 1; |main = 1;", "main = 1; f = 1; g = 1; |f x = 1;",
		"main = 1; f x |x = 1;", "f a b c d e |a = 1; main = 1;", "f f |f = 1; main = 1;",
		"f x y |x = 1; f = 1;", "f = 1; |f x x = 1;", "f = 1; |f = 1; f = 1;", "f x |x x = 1;",
		"f = zz; g x |x = 1;", "main x = zz; |main = 1;", "main x |x = x;",
	})
}

func TestP3Names(t *testing.T) {
	faultsAt(t, api.ErrName, []string{
		"main = |x;", "main = f |x; f x = x;", "main = |f;", "main = main (main |y) z;", "main = + 1 (|x);",
		"f x = 1; g = |x; main = f;", "f x = y; y = 1; g = 1 |z; main = 1;", "f = |zz;", "main x = x |y;",
		"main = 1|a;", "main = |mai;", "f x = |x1; main = 1;",
	})
}

func TestP3Main(t *testing.T) {
	checkPlaces(t, "P3", []place{
		{"f = 1;", 0, api.ErrMain},
		{"  main x = x;", 0, api.ErrMain},
		{"f = 1; main x = x;", 0, api.ErrMain},
		{"f main = main;", 0, api.ErrMain},
		{"mai = 1; mainn = 1; main1 = 1;", 0, api.ErrMain},
		{"main main = main;", 0, api.ErrMain},
	})
}

// Of the errors of P3 the one that is named first counts, even where another one stands further up.
func TestP3Order(t *testing.T) {
	faultsAt(t, api.ErrText, []string{"f x x = zz; f = 1|", "f = 1; f = zz; |1"})
	faultsAt(t, api.ErrLimit, []string{"f x x = zz; f = 1 2 3 4 5 6 7 8 |9;"})
	faultsAt(t, api.ErrTwice, []string{"f x = zz; |f = 1;"})
	faultsAt(t, api.ErrName, []string{"f x = |zz;", "main x = |y;"})
}
