package redex_test

import (
	"reflect"
	"strings"
	"testing"

	"redex/api"
	"redex/redex"
)

func num(n int) api.Atom  { return api.Atom{Kind: api.Num, N: n} }
func arg(n int) api.Atom  { return api.Atom{Kind: api.Arg, N: n} }
func fun(n int) api.Atom  { return api.Atom{Kind: api.Fun, N: n} }
func prim(n int) api.Atom { return api.Atom{Kind: api.Prim, N: n} }
func node(n int) api.Atom { return api.Atom{Kind: api.Node, N: n} }

func atoms(list ...api.Atom) []api.Atom { return list }

func template(arity int, lines ...[]api.Atom) api.Template {
	return api.Template{Arity: arity, Lines: lines}
}

func codeOf(main int, funs ...api.Template) api.Code {
	return api.Code{Main: main, Funs: funs}
}

// times: a line of so many atoms.
func times(n int, a api.Atom) []api.Atom {
	var line []api.Atom
	for range n {
		line = append(line, a)
	}
	return line
}

// goodCode: code and its text, with bars for newlines.
var goodCode = []struct {
	text string
	c    api.Code
}{
	{"M 0 1|F 0 0|n5|", codeOf(0, template(0, atoms(num(5))))},
	{"M 0 1|F 0 0|n0|", codeOf(0, template(0, atoms(num(0))))},
	{"M 0 1|F 0 0|n999999 n100000 n10|", codeOf(0, template(0, atoms(num(999999), num(100000), num(10))))},
	{"M 0 1|F 0 0|p0 p1 p2 p3 p4|", codeOf(0, template(0, atoms(prim(0), prim(1), prim(2), prim(3), prim(4))))},
	{"M 0 1|F 0 0|f0 f0 f0 f0 f0 f0 f0 f0|", codeOf(0, template(0, times(8, fun(0))))},
	{"M 0 2|F 0 0|f1|F 6 0|a5 a4 a3 a2 a1 a0|",
		codeOf(0, template(0, atoms(fun(1))), template(6, atoms(arg(5), arg(4), arg(3), arg(2), arg(1), arg(0))))},
	{"M 1 2|F 1 1|a0 x0|a0 f1|F 0 0|f0|",
		codeOf(1, template(1, atoms(arg(0), node(0)), atoms(arg(0), fun(1))), template(0, atoms(fun(0))))},
	// A Node may be there twice, out of order, or not at all.
	{"M 0 1|F 0 3|n1 x2 x0 x2|n2 x2 x1|n3 n4|p4 n5 n6 n7 n8 n9 n1 n2|",
		codeOf(0, template(0, atoms(num(1), node(2), node(0), node(2)), atoms(num(2), node(2), node(1)), atoms(num(3), num(4)),
			atoms(prim(4), num(5), num(6), num(7), num(8), num(9), num(1), num(2))))},
	{"M 0 1|F 0 1|n1|n2 n3|", codeOf(0, template(0, atoms(num(1)), atoms(num(2), num(3))))},
}

// reads: the text is that of this code.
func reads(t *testing.T, text string, want api.Code) {
	t.Helper()
	c, line, e := redex.Read(text)
	if !reflect.DeepEqual(c, want) || line != 0 || e != api.OK {
		t.Errorf("P6: Read(%q) = %v, %d, %d, want %v", text, c, line, e, want)
	}
}

func writes(t *testing.T, c api.Code, want string) {
	t.Helper()
	text, e := redex.Write(c)
	if text != want || e != api.OK {
		t.Errorf("P6: Write(%v) = %q, %d, want %q", c, text, e, want)
	}
}

func TestP6Good(t *testing.T) {
	for _, x := range goodCode {
		reads(t, barred(x.text), x.c)
		writes(t, x.c, barred(x.text))
	}
}

// Every bound at once: the longest code text that there is.
func TestP6GreatestCode(t *testing.T) {
	text := "M 15 16\n"
	c := api.Code{Main: 15}
	for i := range 16 {
		f := api.Template{Arity: 6}
		if i == 15 {
			f.Arity = 0
		}
		text += "F " + string(rune('0'+f.Arity)) + " 12\n"
		for range 13 {
			f.Lines = append(f.Lines, times(8, num(999999)))
			text += strings.TrimSuffix(strings.Repeat("n999999 ", 8), " ") + "\n"
		}
		c.Funs = append(c.Funs, f)
	}
	reads(t, text, c)
	writes(t, c, text)
}

// faultLine checks a text with bars, and a mark ! ahead of the line that is to be told, which is
// taken out.
func faultLine(t *testing.T, marked string) {
	t.Helper()
	ahead, behind, found := strings.Cut(marked, "!")
	if !found {
		t.Fatalf("no mark in %q", marked)
	}
	text := barred(ahead + behind)
	want := strings.Count(ahead, "|") + 1
	c, line, e := redex.Read(text)
	if c.Main != 0 || len(c.Funs) != 0 || line != want || e != api.ErrCode {
		t.Errorf("P6: Read(%.80q) = %v, %d, %d, want %d, %d", text, c, line, e, want, api.ErrCode)
	}
}

func faultLines(t *testing.T, marked ...string) {
	t.Helper()
	for _, m := range marked {
		faultLine(t, m)
	}
}

func TestP6Examples(t *testing.T) {
	faultLines(t, "M 0 1|F 0 0|!n05|", "M 0 1|F 0 0|!n5", "M 0 1|F 0 0|!", "!M 1 1|", "M 0 1|!F 1 0|",
		"M 0 1|F 0 1|n5|!x0 n1|", "M 0 1|F 0 0|n5|!n5|", "!")
}

func TestP6FirstLine(t *testing.T) {
	faultLines(t, "!|", "!||", "!M|", "!M 0|", "!M 0 1", "!M 0 1 0|", "!M 0 1 |", "! M 0 1|", "!M  0 1|", "!M 0  1|", "!M0 1|", "!M 0\t1|",
		"!m 0 1|", "!F 0 1|", "!N 0 1|", "!MM 0 1|", "! 0 1|", "!0 1|", "!M 0 1\r|", "!M 0 a|", "!M a 1|", "!M 0 1;|",
		"!M 00 1|", "!M 0 01|", "!M +0 1|", "!M -0 1|", "!M -1 1|", "!M 0 -1|", "!M 0 +1|", "!M 0x0 1|", "!M 0 1.0|",
		"!M 0 0|", "!M 1 0|", "!M 0 17|", "!M 16 17|", "!M 1 1|", "!M 2 1|", "!M 16 16|", "!M 1000000 1|", "!M 0 1000000|",
		"!M 0 18446744073709551617|", "!M 18446744073709551616 1|", "!M 4294967296 1|", "!M 0 4294967297|",
		"!n5|", "!F 0 0|n5|")
	faultLines(t, "M 0 1|!", "M 0 16|!", "M 15 16|!", "M 9 10|!")
}

func TestP6FunctionLine(t *testing.T) {
	faultLines(t, "M 0 1|!|", "M 0 1|!F|", "M 0 1|!F 0|", "M 0 1|!F 0 0", "M 0 1|!F 0 0 |", "M 0 1|! F 0 0|", "M 0 1|!F  0 0|", "M 0 1|!F 0  0|",
		"M 0 1|!F 0 0 0|", "M 0 1|!f 0 0|", "M 0 1|!M 0 1|", "M 0 1|!n5|", "M 0 1|!F 00 0|", "M 0 1|!F 0 00|", "M 0 1|!F -0 0|", "M 0 1|!F 0 -1|", "M 1 2|!F -1 0|",
		"M 0 1|!F 0 13|", "M 0 1|!F 1 0|", "M 0 1|!F 6 0|", "M 1 2|!F 7 0|", "M 1 2|!F 6 13|", "M 0 1|!F 0 1000000|", "M 0 1|!F 0 18446744073709551616|",
		"M 1 2|!F 18446744073709551616 0|", "M 0 1|!F 0 0\r|")
	faultLines(t, "M 0 1|F 0 12|!", "M 0 1|F 0 0|!", "M 1 2|F 6 12|!", "M 1 2|F 0 0|!")
	// The function behind the first, main or not.
	faultLines(t, "M 1 2|F 6 0|n1|!F 1 0|", "M 1 2|F 6 0|n1|!F 6 0|", "M 0 2|F 0 0|n1|!F 7 0|", "M 0 2|F 0 0|n1|!", "M 0 2|F 0 0|n1|F 6 0|!",
		"M 0 2|F 0 0|n1|!n1|", "M 0 2|F 0 1|n1|n1 n1|!n1 n1|", "M 0 2|F 0 0|n1|!|", "M 0 2|F 0 0|n1|!F 0 0")
}

func TestP6AtomLine(t *testing.T) {
	for _, line := range []string{"", "n", "5", "n5 ", " n5", "n5  n6", "n5\tn6", "n 5", "n5\r", "N5", "y1", "m1", "nn1", "n1n1", "n1,n1", "n1 ;",
		"n05", "n00", "n-1", "n+1", "n-0", "n1000000", "n0999999", "n18446744073709551616", "n4294967296", "n1e1", "n0x1", "n1_0", "n\xff", "n٣", "a", "a0", "a-1", "f1", "f-1", "f00",
		"f", "p5", "p-1", "p", "p00", "x0", "x", "n1 x0", "n1 x-1", "n1 f1", "n1 a0", "n1 p5", "n1 n1000000", "n1 n05", "F 0 0", "M 0 1",
		"n1 n2 n3 n4 n5 n6 n7 n8 n9", "n1 n2 n3 n4 n5 n6 n7 n8 n9 n10", "n1 n2 n3 n4 n5 n6 n7 n8 "} {
		faultLine(t, "M 0 1|F 0 0|!"+line+"|")
	}
	faultLines(t, "M 1 2|F 0 0|!a0|", "M 1 2|F 1 0|!a1|", "M 1 2|F 6 0|!a6|", "M 1 2|F 6 0|a5|F 0 0|!a0|", "M 1 2|F 6 0|!f2|", "M 1 2|F 6 0|f1|F 0 0|!f2|",
		"M 0 1|F 0 0|!n5", "M 0 1|F 0 0|!n", "M 0 1|F 0 0|!n5 n6")
}

func TestP6InnerLine(t *testing.T) {
	faultLines(t, "M 0 1|F 0 1|n5|!", "M 0 1|F 0 1|n5|!n5|", "M 0 1|F 0 1|n5|!|", "M 0 1|F 0 1|n5|!n5 n6", "M 0 1|F 0 1|n5|!x0 n1|", "M 0 1|F 0 2|n5|!x1 n1|",
		"M 0 1|F 0 1|n5|!1 2|", "M 0 1|F 0 1|n5|!n1 n2 n3 n4 n5 n6 n7 n8 n9|", "M 0 1|F 0 2|n5|n1 n2|!n3|", "M 0 1|F 0 2|n5|n1 n2|!")
	// A Node is one of a later line, and there is one of that number.
	faultLines(t, "M 0 1|F 0 1|!n5 x1|", "M 0 1|F 0 1|!n5 x1000000|", "M 0 1|F 0 1|!x0|", "M 0 1|F 0 1|!x0 n1|", "M 0 1|F 0 1|n5|!n1 x0|", "M 0 1|F 0 1|n5|!n1 x1|",
		"M 0 1|F 0 2|n5 x1|!n1 x0|", "M 0 1|F 0 2|n5 x1|n1 x1|!n1 x1|", "M 0 1|F 0 2|n5 x1|n1 x1|!n1 x0|", "M 0 1|F 0 2|n5 x1|n1 x1|!n1 x2|", "M 0 1|F 0 2|!n5 x2|", "M 0 1|F 0 2|n5|!n1 x2|",
		"M 0 1|F 0 12|!n5 x12|", "M 0 2|F 0 1|n5|n5 n5|F 0 0|!n1 x0|")
	faultLines(t, "M 0 1|F 0 12|n5 x11|n1 x11|n1 x11|n1 x11|n1 x11|n1 x11|n1 x11|n1 x11|n1 x11|n1 x11|n1 x11|n1 x11|!n1 x11|",
		"M 0 1|F 0 12|n5 x11|n1 x11|n1 x11|n1 x11|n1 x11|n1 x11|n1 x11|n1 x11|n1 x11|n1 x11|n1 x11|!n1 x10|")
}

// A line behind the last function cannot stand, whatever it is.
func TestP6Behind(t *testing.T) {
	for _, rest := range []string{"|", "n5|", "F 0 0|", "F 0 0|n5|", "M 0 1|", " ", "x", "n5", "\x00", "||||", "M 0 1|F 0 0|n5|"} {
		faultLine(t, "M 0 1|F 0 0|n5|!"+rest)
		faultLine(t, "M 1 2|F 6 1|n5 x0|n1 n2|F 0 0|n1|!"+rest)
	}
}

// Of several lines at fault the first is told.
func TestP6FirstFault(t *testing.T) {
	faultLines(t, "!M 1 1|F 7 0|x0|", "M 0 1|!F 1 0|x0|x0|", "M 0 1|F 0 0|!x0|x0", "M 0 1|F 0 1|!n05|n1|", "M 0 2|F 0 0|!n1 n|F 9 9|", "M 0 1|F 0 1|n1|!n1|n1|")
	faultLines(t, "M 0 1|!"+strings.Repeat("x", 20000), "M 0 1|!"+strings.Repeat("x", 20000)+"|n", "M 0 1|F 0 0|!"+strings.Repeat("n1 ", 9000)+"|", "!"+strings.Repeat("|", api.MaxCode),
		"!"+strings.Repeat(" ", api.MaxCode), "!"+strings.Repeat("9", api.MaxCode), "!M 0 "+strings.Repeat("1", 20000)+"|", "M 0 1|F 0 0|!n"+strings.Repeat("0", 20000)+"|")
}

func TestP6Long(t *testing.T) {
	good := "M 0 1\nF 0 0\nn5\n"
	for _, x := range []struct {
		text string
		line int
		e    api.Errno
	}{
		{good + strings.Repeat("\n", api.MaxCode-len(good)), 4, api.ErrCode},
		{good + strings.Repeat("\n", api.MaxCode+1-len(good)), 0, api.ErrLong},
		{strings.Repeat("\xff", api.MaxCode), 1, api.ErrCode},
		{strings.Repeat("\xff", api.MaxCode+1), 0, api.ErrLong},
		{strings.Repeat(good, 1000000), 0, api.ErrLong},
	} {
		c, line, e := redex.Read(x.text)
		if c.Main != 0 || len(c.Funs) != 0 || line != x.line || e != x.e {
			t.Errorf("P6: Read of %d bytes = %v, %d, %d, want %d, %d", len(x.text), c, line, e, x.line, x.e)
		}
	}
}

// refuses: the code is not good.
func refuses(t *testing.T, c api.Code) {
	t.Helper()
	text, e := redex.Write(c)
	if text != "" || e != api.ErrCode {
		t.Errorf("P6: Write(%.200v) = %.80q, %d, want %d", c, text, e, api.ErrCode)
	}
}

const (
	least    = -1 << 63
	greatest = 1<<63 - 1
)

// funs: so many functions that are good by themselves, the first of them main.
func funs(n int) api.Code {
	var c api.Code
	for range n {
		c.Funs = append(c.Funs, template(0, atoms(num(1))))
	}
	return c
}

func TestP6WriteFunctions(t *testing.T) {
	for _, c := range []api.Code{{}, {Funs: []api.Template{}}, {Main: 1}, {Main: -1}, funs(17), funs(100000)} {
		refuses(t, c)
	}
	writes(t, funs(16), "M 0 16\n"+strings.Repeat("F 0 0\nn1\n", 16))
	for _, main := range []int{-1, 16, 17, least, greatest} {
		c := funs(16)
		c.Main = main
		refuses(t, c)
	}
	last := funs(16)
	last.Main = 15
	writes(t, last, "M 15 16\n"+strings.Repeat("F 0 0\nn1\n", 16))
}

func TestP6WriteShape(t *testing.T) {
	one := atoms(num(1))
	for _, arity := range []int{1, 6, 7, -1, least, greatest} {
		refuses(t, codeOf(0, template(arity, one)))
		refuses(t, codeOf(1, template(0, one), template(arity, one)))
	}
	for _, arity := range []int{7, -1, least, greatest} {
		refuses(t, codeOf(1, template(arity, one), template(0, one)))
		refuses(t, codeOf(0, template(0, one), template(arity, one)))
	}
	writes(t, codeOf(1, template(6, one), template(0, one)), "M 1 2\nF 6 0\nn1\nF 0 0\nn1\n")
	refuses(t, codeOf(0, template(0)))
	refuses(t, codeOf(0, api.Template{Lines: [][]api.Atom{}}))
	refuses(t, codeOf(0, template(0, one), template(0)))
	many := template(0, one)
	for range 12 {
		many.Lines = append(many.Lines, atoms(num(1), num(2)))
	}
	writes(t, codeOf(0, many), "M 0 1\nF 0 12\nn1\n"+strings.Repeat("n1 n2\n", 12))
	many.Lines = append(many.Lines, atoms(num(1), num(2)))
	refuses(t, codeOf(0, many))
	many.Lines = make([][]api.Atom, 1000000)
	refuses(t, codeOf(0, many))
}

func TestP6WriteWidth(t *testing.T) {
	one := atoms(num(1))
	for _, line := range [][]api.Atom{nil, {}, times(9, num(1)), times(1000000, num(1))} {
		refuses(t, codeOf(0, template(0, line)))
		refuses(t, codeOf(0, template(0, one, line)))
		refuses(t, codeOf(0, template(0, one, times(2, num(1)), line)))
	}
	refuses(t, codeOf(0, template(0, one, one)))
	writes(t, codeOf(0, template(0, times(8, num(1)), times(8, num(2)))), barred("M 0 1|F 0 1|n1 n1 n1 n1 n1 n1 n1 n1|n2 n2 n2 n2 n2 n2 n2 n2|"))
}

func TestP6WriteAtoms(t *testing.T) {
	var bad []api.Atom
	for _, kind := range []int{0, 6, 7, -1, 255, 257, least, greatest} {
		bad = append(bad, api.Atom{Kind: kind}, api.Atom{Kind: kind, N: 1})
	}
	for _, n := range []int{-1, least, greatest, 1000000, 1 << 32} {
		bad = append(bad, num(n), arg(n), fun(n), prim(n), node(n))
	}
	// As if of code with two functions, three parameters and two inner applications.
	bad = append(bad, arg(3), fun(2), prim(5), node(2))
	two := atoms(num(1), num(2))
	main := template(0, atoms(num(1)))
	for _, a := range bad {
		refuses(t, codeOf(1, template(3, atoms(a), two, two), main))
		refuses(t, codeOf(1, template(3, atoms(num(1), a), two, two), main))
		refuses(t, codeOf(1, template(3, two, atoms(num(1), num(2), num(3), num(4), num(5), num(6), num(7), a), two), main))
		refuses(t, codeOf(1, template(3, two, two, atoms(num(1), a)), main))
	}
	writes(t, codeOf(1, template(3, atoms(arg(2), fun(1), prim(4), node(1)), two, two), main), barred("M 1 2|F 3 2|a2 f1 p4 x1|n1 n2|n1 n2|F 0 0|n1|"))
	refuses(t, codeOf(1, main, template(0, atoms(arg(0)))))
}

func TestP6WriteNodes(t *testing.T) {
	two := atoms(num(1), num(2))
	refuses(t, codeOf(0, template(0, atoms(node(0)), two)))
	refuses(t, codeOf(0, template(0, atoms(node(0), num(1)), two)))
	refuses(t, codeOf(0, template(0, two, atoms(node(1), num(1)), two)))
	refuses(t, codeOf(0, template(0, two, atoms(num(1), node(0)))))
	refuses(t, codeOf(0, template(0, two, atoms(num(1), node(0)), two)))
	refuses(t, codeOf(0, template(0, two, two, atoms(num(1), node(1)))))
	refuses(t, codeOf(0, template(0, two, two, atoms(num(1), node(0)))))
	refuses(t, codeOf(0, template(0, atoms(num(1), node(0)))))
	writes(t, codeOf(0, template(0, atoms(num(1), node(1), node(0)), atoms(num(1), node(1)), two)), barred("M 0 1|F 0 2|n1 x1 x0|n1 x1|n1 n2|"))
}
