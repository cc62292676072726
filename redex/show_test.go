package redex_test

import (
	"strings"
	"testing"

	"redex/api"
	"redex/redex"
)

func TestP4Show(t *testing.T) {
	for _, x := range []struct{ src, want string }{
		{"main=f(007)( g 1 )  2;f x y z=x;g x=x;", "main = f 7 (g 1) 2;\nf x y z = x;\ng x = x;\n"},
		{"main=1;", "main = 1;\n"},
		{"\n \nmain\n=\n1\n;\n\n", "main = 1;\n"},
		{"main=000;", "main = 0;\n"},
		{"main=0 00 000000 0010 100 000100 999999;", "main = 0 0 0 10 100 100 999999;\n"},
		{"main=1a;a=2;", "main = 1 a;\na = 2;\n"},
		{"main=a01;a01=0;", "main = a01;\na01 = 0;\n"},
		{"main=+-*<?(?);", "main = + - * < ? ?;\n"},
		{"main=1(2)(main)(+);", "main = 1 2 main +;\n"},
		{"main=1(2(3));", "main = 1 (2 3);\n"},
		{"main=1(2(3(4)(5)))(6);", "main = 1 (2 (3 4 5)) 6;\n"},
		{"main=1(2 3)(4 5);", "main = 1 (2 3) (4 5);\n"},
		{"main=1((2 3));", ""},
		{"main=1(2(3 4)(5)(6(7 8)));", "main = 1 (2 (3 4) 5 (6 (7 8)));\n"},
		{"f a b=+(a)(*b(-a 1))(b);main=f 1 2;", "f a b = + a (* b (- a 1)) b;\nmain = f 1 2;\n"},
		{"b=1;a=2;main=3;", "b = 1;\na = 2;\nmain = 3;\n"},
	} {
		s, e := redex.Show(x.src)
		if x.want == "" {
			if s != "" || e != api.ErrText {
				t.Errorf("P4: Show(%q) = %q, %d, want an error", x.src, s, e)
			}
			continue
		}
		if s != x.want || e != api.OK {
			t.Errorf("P4: Show(%q) = %q, %d, want %q", x.src, s, e, x.want)
		}
		again, e := redex.Show(s)
		if again != s || e != api.OK {
			t.Errorf("P4: Show(%q) = %q, %d, want the same", s, again, e)
		}
	}
}

// What is shown may be longer than a source text may be.
func TestP4LongerThanMaxText(t *testing.T) {
	src, want := "", ""
	for i := range 14 {
		f := "f" + string(rune('a'+i))
		src += f + "=1" + strings.Repeat("(1+++++++)", 6) + ";"
		want += f + " = 1" + strings.Repeat(" (1 + + + + + + +)", 6) + ";\n"
	}
	src += "main=1;"
	want += "main = 1;\n"
	if len(src) > api.MaxText || len(want) <= api.MaxText {
		t.Fatalf("%d bytes, shown %d", len(src), len(want))
	}
	s, e := redex.Show(src)
	if s != want || e != api.OK {
		t.Errorf("P4: Show of %d bytes = %d bytes, %d, want %d bytes", len(src), len(s), e, len(want))
	}
}

func TestP4Errors(t *testing.T) {
	for _, x := range []place{
		{strings.Repeat("main=1;", 200), 0, api.ErrLong},
		{"", 0, api.ErrText},
		{"main = 1", 8, api.ErrText},
		{"main = \x80;", 7, api.ErrText},
		{"main = 1 2 3 4 5 6 7 8 9;", 23, api.ErrLimit},
		{"main = 1; main = 1;", 10, api.ErrTwice},
		{"main = x;", 7, api.ErrName},
		{"main x = x;", 0, api.ErrMain},
	} {
		checkPlaces(t, "P3", []place{x})
		s, e := redex.Show(x.src)
		if s != "" || e != x.e {
			t.Errorf("P4: Show(%.40q) = %q, %d, want %d", x.src, s, e, x.e)
		}
	}
}
