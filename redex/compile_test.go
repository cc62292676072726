package redex_test

import (
	"fmt"
	"strconv"
	"strings"
	"testing"

	"redex/api"
	"redex/redex"
)

// barred: the text with a newline for each bar, as the document writes it.
func barred(s string) string {
	return strings.ReplaceAll(s, "|", "\n")
}

// compiles checks a code text that is written with bars.
func compiles(t *testing.T, src, want string) {
	t.Helper()
	s, e := redex.Compile(src)
	if s != barred(want) || e != api.OK {
		t.Errorf("P5: Compile(%q) = %q, %d, want %q", src, s, e, barred(want))
	}
}

func TestP5Examples(t *testing.T) {
	compiles(t, "main = f (g 1 (g 2)) (g 3); f x y = + x y; g x = x;",
		"M 0 3|F 0 3|f1 x0 x2|f2 n1 x1|f2 n2|f2 n3|F 2 0|p0 a0 a1|F 1 0|a0|")
	compiles(t, "main = 1;", "M 0 1|F 0 0|n1|")
	compiles(t, "main = main;", "M 0 1|F 0 0|f0|")
}

// Inner applications are numbered by their opening parentheses, not by where they end or how deep they lie.
func TestP5Order(t *testing.T) {
	compiles(t, "main = 1 (2 (3 (4 5)));", "M 0 1|F 0 3|n1 x0|n2 x1|n3 x2|n4 n5|")
	compiles(t, "main = 1 (2 3) (4 5) (6 7);", "M 0 1|F 0 3|n1 x0 x1 x2|n2 n3|n4 n5|n6 n7|")
	compiles(t, "main = 1 (2 (3 4) 5 (6 7)) 8 (9 (10 11) 12);",
		"M 0 1|F 0 5|n1 x0 n8 x3|n2 x1 n5 x2|n3 n4|n6 n7|n9 x4 n12|n10 n11|")
	compiles(t, "main = 1 (2 (3 4)) (5 (6 7));", "M 0 1|F 0 4|n1 x0 x2|n2 x1|n3 n4|n5 x3|n6 n7|")
	compiles(t, "f = 1 (2 3); main = 4 (5 6) (7 8); g = 9 (1 (2 3));",
		"M 1 3|F 0 1|n1 x0|n2 n3|F 0 2|n4 x0 x1|n5 n6|n7 n8|F 0 2|n9 x0|n1 x1|n2 n3|")
}

// Parentheses round a head alone make no inner application, nor are they counted.
func TestP5HeadAlone(t *testing.T) {
	compiles(t, "main = 1 (2);", "M 0 1|F 0 0|n1 n2|")
	compiles(t, "main = 1 (main) (+) (007);", "M 0 1|F 0 0|n1 f0 p0 n7|")
	compiles(t, "main = 1 (2) (3 (4)) (5) (6 7);", "M 0 1|F 0 2|n1 n2 x0 n5 x1|n3 n4|n6 n7|")
	compiles(t, "main = 1 (2 (3) (4 5));", "M 0 1|F 0 2|n1 x0|n2 n3 x1|n4 n5|")
	compiles(t, "f x = x (x) (x (x)); main = f;", "M 1 2|F 1 1|a0 a0 x0|a0 a0|F 0 0|f0|")
}

func TestP5Atoms(t *testing.T) {
	compiles(t, "main = 0 00 007 000000 010 100 999999;", "M 0 1|F 0 0|n0 n0 n7 n0 n10 n100 n999999|")
	compiles(t, "main = + - * < ?;", "M 0 1|F 0 0|p0 p1 p2 p3 p4|")
	compiles(t, "main = ?+<-*;", "M 0 1|F 0 0|p4 p0 p3 p1 p2|")
	compiles(t, "main = 1a; a = 2;", "M 0 2|F 0 0|n1 f1|F 0 0|n2|")
	compiles(t, "f a b c = c a b f main (b c); main = f;", "M 1 2|F 3 1|a2 a0 a1 f0 f1 x0|a1 a2|F 0 0|f0|")
}

// A parameter is ahead of a function of the same name, in its own definition alone.
func TestP5Names(t *testing.T) {
	compiles(t, "f f = f (f f); main = f;", "M 1 2|F 1 1|a0 x0|a0 a0|F 0 0|f0|")
	compiles(t, "f g main = main g f; g x = f; main = g f;", "M 2 3|F 2 0|a1 a0 f0|F 1 0|f0|F 0 0|f1 f0|")
	compiles(t, "x y = y; y x = x; main = x y;", "M 2 3|F 1 0|a0|F 1 0|a0|F 0 0|f0 f1|")
	compiles(t, "main = c b a; a = c; b = a; c = b;", "M 0 4|F 0 0|f3 f2 f1|F 0 0|f3|F 0 0|f1|F 0 0|f2|")
	compiles(t, "a = b; b = main; c a = b a; main = c;", "M 3 4|F 0 0|f1|F 0 0|f3|F 1 0|f1 a0|F 0 0|f2|")
}

// Each bound is met.
func TestP5Bounds(t *testing.T) {
	src, want := "", "M 15 16|"
	for i := range 15 {
		src += "f" + strconv.Itoa(i) + " = f" + strconv.Itoa(14-i) + ";"
		want += "F 0 0|f" + strconv.Itoa(14-i) + "|"
	}
	compiles(t, src+"main = main;", want+"F 0 0|f15|")
	compiles(t, "f a b c d e g = g e d c b a f main; main = 1;", "M 1 2|F 6 0|a5 a4 a3 a2 a1 a0 f0 f1|F 0 0|n1|")
	compiles(t, "main = 1 2 3 4 5 6 7 (1 2 3 4 5 6 7 8);", "M 0 1|F 0 1|n1 n2 n3 n4 n5 n6 n7 x0|n1 n2 n3 n4 n5 n6 n7 n8|")
	compiles(t, "f = 1; main = f "+nested(12)+"1"+strings.Repeat(")", 12)+";",
		"M 1 2|F 0 0|n1|F 0 12|f0 x0|f0 x1|f0 x2|f0 x3|f0 x4|f0 x5|f0 x6|f0 x7|f0 x8|f0 x9|f0 x10|f0 x11|f0 n1|")
	compiles(t, "main = 0 (1 2 (3 (4)) (5 6)) (7 8) (9 0) (1 (2 3 (4 5)) (6 7)) (8 (9 0)) (1 2) (3);",
		"M 0 1|F 0 12|n0 x0 x3 x4 x5 x9 x11 n3|n1 n2 x1 x2|n3 n4|n5 n6|n7 n8|n9 n0|n1 x6 x8|n2 n3 x7|n4 n5|n6 n7|n8 x10|n9 n0|n1 n2|")
}

func TestP5Errors(t *testing.T) {
	for _, x := range []place{
		{strings.Repeat("main=1;", 200), 0, api.ErrLong},
		{"main = 1;" + strings.Repeat(" ", api.MaxText-8), 0, api.ErrLong},
		{"", 0, api.ErrText},
		{"main = 1", 8, api.ErrText},
		{"main = 1 (2;", 11, api.ErrText},
		{"main = \x80;", 7, api.ErrText},
		{"main = 1 2 3 4 5 6 7 8 9;", 23, api.ErrLimit},
		{"main = 1; main = 1;", 10, api.ErrTwice},
		{"main = x;", 7, api.ErrName},
		{"main = f; f x = y;", 16, api.ErrName},
		{"f = 1;", 0, api.ErrMain},
		{"main x = x;", 0, api.ErrMain},
	} {
		checkPlaces(t, "P3", []place{x})
		s, e := redex.Compile(x.src)
		if s != "" || e != x.e {
			t.Errorf("P5: Compile(%.40q) = %q, %d, want %d", x.src, s, e, x.e)
		}
	}
}

// maker throws programs.
type maker struct {
	d      *dice
	names  []string // of the functions, and behind them of the parameters
	inner  int      // inner applications that the definition may still have
	spaces []string
}

func (m *maker) space() string { return m.spaces[m.d.roll(len(m.spaces))] }

func (m *maker) simple() string {
	switch m.d.roll(6) {
	case 0:
		return fmt.Sprintf("%0*d", m.d.roll(4)+1, m.d.roll(100))
	case 1:
		return string("+-*<?"[m.d.roll(5)])
	}
	return m.names[m.d.roll(len(m.names))]
}

func (m *maker) application(least int) string {
	text := m.simple()
	for range least + m.d.roll(4) {
		text += " " + m.space()
		switch {
		case m.inner > 0 && m.d.roll(3) == 0:
			m.inner--
			text += "(" + m.space() + m.application(1) + m.space() + ")"
		case m.d.roll(5) == 0:
			text += "(" + m.space() + m.simple() + m.space() + ")"
		default:
			text += m.simple()
		}
	}
	return text
}

// throwProgram: a program whose functions and parameters are named by a few letters, so that names meet.
func throwProgram(d *dice) string {
	functions := []string{"main", "a", "b", "c", "d", "e"}[:1+d.roll(6)]
	first := d.roll(len(functions))
	functions[0], functions[first] = functions[first], functions[0]
	m := maker{d: d, spaces: []string{"", "", " ", "\n"}}
	text := m.space()
	for _, f := range functions {
		parameters := []string{"a", "x", "b", "y", "main", "z"}[:d.roll(7)]
		if f == "main" {
			parameters = nil
		}
		m.names = append(append([]string{}, functions...), parameters...)
		m.inner = d.roll(api.MaxNodes + 1)
		text += f + " " + strings.Join(parameters, " ") + m.space() + "=" + m.space() + m.application(0) + m.space() + ";" + m.space()
	}
	if len(text) > api.MaxText {
		return throwProgram(d)
	}
	return text
}

// unfolder writes a template as a source text again.
type unfolder struct {
	functions, parameters []string
	lines                 [][]api.Atom
	seen                  []int // the numbers of the nodes, in the order in which they are met
}

func (u *unfolder) line(number int) string {
	var parts []string
	for _, a := range u.lines[number] {
		switch a.Kind {
		case api.Num:
			parts = append(parts, strconv.Itoa(a.N))
		case api.Arg:
			parts = append(parts, u.parameters[a.N])
		case api.Fun:
			parts = append(parts, u.functions[a.N])
		case api.Prim:
			parts = append(parts, string("+-*<?"[a.N]))
		case api.Node:
			u.seen = append(u.seen, a.N)
			parts = append(parts, "("+u.line(a.N+1)+")")
		}
	}
	return strings.Join(parts, " ")
}

// unfolds: the code, written with the names of a program that Show wrote, is that program.
func unfolds(t *testing.T, shown string, c api.Code) {
	t.Helper()
	var functions []string
	lines := strings.SplitAfter(shown, "\n")
	lines = lines[:len(lines)-1]
	for _, line := range lines {
		functions = append(functions, strings.Fields(line)[0])
	}
	if len(lines) != len(c.Funs) || functions[c.Main] != "main" {
		t.Errorf("P5: %q is compiled to %v", shown, c)
		return
	}
	for i, line := range lines {
		ahead, _, _ := strings.Cut(line, "=")
		parameters := strings.Fields(ahead)[1:]
		u := unfolder{functions: functions, parameters: parameters, lines: c.Funs[i].Lines}
		want := ahead + "= " + u.line(0) + ";\n"
		if line != want || c.Funs[i].Arity != len(parameters) || len(u.seen) != len(u.lines)-1 {
			t.Errorf("P5: %q is compiled to %v", line, c.Funs[i])
		}
		for j, node := range u.seen {
			if node != j {
				t.Errorf("P5: %q has the inner applications %v", line, u.seen)
				break
			}
		}
	}
}

func TestP5Unfolds(t *testing.T) {
	d := dice{5}
	for range 5000 {
		src := throwProgram(&d)
		text, e := redex.Compile(src)
		if e != api.OK {
			t.Fatalf("P5: Compile(%q) = %q, %d", src, text, e)
		}
		c, line, e := redex.Read(text)
		if line != 0 || e != api.OK {
			t.Fatalf("P6: Read(%q) = %d, %d", text, line, e)
		}
		shown, _ := redex.Show(src)
		unfolds(t, shown, c)
	}
}
