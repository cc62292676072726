package redex_test

import (
	"fmt"
	"reflect"
	"regexp"
	"strconv"
	"strings"
	"testing"

	"redex/api"
	"redex/redex"
)

var (
	pairLine = regexp.MustCompile(`^([MF]) (0|[1-9][0-9]{0,5}) (0|[1-9][0-9]{0,5})$`)
	atomWord = regexp.MustCompile(`^[nafpx](0|[1-9][0-9]{0,5})$`)
)

// pairOf: the numbers of a line with this letter, -1 if it is none.
func pairOf(line, letter string) (int, int) {
	found := pairLine.FindStringSubmatch(line)
	if found == nil || found[1] != letter {
		return -1, -1
	}
	first, _ := strconv.Atoi(found[2])
	second, _ := strconv.Atoi(found[3])
	return first, second
}

// atomsStand: whether the line may be that of this number in a template.
func atomsStand(line string, number, functions, arity, inner int) bool {
	words := strings.Split(line, " ")
	if len(words) > 8 || number > 0 && len(words) < 2 {
		return false
	}
	for i, word := range words {
		if !atomWord.MatchString(word) || i == 0 && word[0] == 'x' {
			return false
		}
		n, _ := strconv.Atoi(word[1:])
		most := map[byte]int{'n': 1000000, 'a': arity, 'f': functions, 'p': 5, 'x': inner}[word[0]]
		if n >= most || word[0] == 'x' && n+1 <= number {
			return false
		}
	}
	return true
}

// lineAtFault: what Read is to tell of a text that is not too long, by the words of P6: 0, if it is
// one of good code.
func lineAtFault(text string) int {
	lines := strings.SplitAfter(text, "\n")
	at := 0
	next := func() string {
		at++
		if at > len(lines) || !strings.HasSuffix(lines[at-1], "\n") {
			return "none"
		}
		return strings.TrimSuffix(lines[at-1], "\n")
	}
	main, functions := pairOf(next(), "M")
	if functions < 1 || functions > 16 || main >= functions {
		return at
	}
	for f := range functions {
		arity, inner := pairOf(next(), "F")
		if arity < 0 || arity > 6 || inner > 12 || f == main && arity > 0 {
			return at
		}
		for i := range inner + 1 {
			if !atomsStand(next(), i, functions, arity, inner) {
				return at
			}
		}
	}
	// Behind the last newline the split leaves an empty text.
	if lines[at] != "" || len(lines) > at+1 {
		return at + 1
	}
	return 0
}

// readHolds: what holds for Read at every text.
func readHolds(t *testing.T, text string) {
	t.Helper()
	c, line, e := redex.Read(text)
	want, wantErr := 0, api.OK
	if len(text) > api.MaxCode {
		wantErr = api.ErrLong
	} else if want = lineAtFault(text); want != 0 {
		wantErr = api.ErrCode
	}
	if line != want || e != wantErr {
		t.Fatalf("P6: Read(%.300q) = %d, %d, want %d, %d", text, line, e, want, wantErr)
	}
	if e != api.OK {
		if c.Main != 0 || len(c.Funs) != 0 {
			t.Errorf("P1: Read(%.80q) = %v with the error %d", text, c, e)
		}
		return
	}
	again, e := redex.Write(c)
	if again != text || e != api.OK {
		t.Errorf("P6: Write of what is read of %q = %q, %d", text, again, e)
	}
}

// textOf: the code, good or not, laid down as a code text would be.
func textOf(c api.Code) string {
	text := fmt.Sprintf("M %d %d\n", c.Main, len(c.Funs))
	for _, f := range c.Funs {
		text += fmt.Sprintf("F %d %d\n", f.Arity, len(f.Lines)-1)
		for _, line := range f.Lines {
			var words []string
			for _, a := range line {
				letter := "?"
				if a.Kind >= 1 && a.Kind <= 5 {
					letter = string("nafpx"[a.Kind-1])
				}
				words = append(words, letter+strconv.Itoa(a.N))
			}
			text += strings.Join(words, " ") + "\n"
		}
	}
	return text
}

// writeHolds: what holds for Write at every code of few elements.
func writeHolds(t *testing.T, c api.Code) bool {
	t.Helper()
	text, e := redex.Write(c)
	want := textOf(c)
	if lineAtFault(want) == 0 {
		if text != want || e != api.OK {
			t.Errorf("P6: Write(%v) = %q, %d, want %q", c, text, e, want)
		}
		return true
	}
	if text != "" || e != api.ErrCode {
		t.Errorf("P6: Write(%v) = %q, %d, want %d", c, text, e, api.ErrCode)
	}
	return false
}

// throwCode: good code, a little of everything.
func throwCode(d *dice) api.Code {
	c := api.Code{}
	functions := 1 + d.roll(4)
	if d.roll(20) == 0 {
		functions = 16
	}
	c.Main = d.roll(functions)
	for i := range functions {
		f := api.Template{Arity: d.roll(7)}
		if i == c.Main {
			f.Arity = 0
		}
		inner := d.roll(4)
		if d.roll(20) == 0 {
			inner = 12
		}
		for number := range inner + 1 {
			width := 2 + d.roll(7)
			if number == 0 {
				width = 1 + d.roll(8)
			}
			f.Lines = append(f.Lines, throwLine(d, width, number, functions, f.Arity, inner))
		}
		c.Funs = append(c.Funs, f)
	}
	return c
}

func throwLine(d *dice, width, number, functions, arity, inner int) []api.Atom {
	var line []api.Atom
	for len(line) < width {
		switch kind := 1 + d.roll(5); {
		case kind == api.Num:
			line = append(line, num([]int{0, 1, 7, 10, 999999, d.roll(1000)}[d.roll(6)]))
		case kind == api.Arg && arity > 0:
			line = append(line, arg(d.roll(arity)))
		case kind == api.Fun:
			line = append(line, fun(d.roll(functions)))
		case kind == api.Prim:
			line = append(line, prim(d.roll(5)))
		case kind == api.Node && len(line) > 0 && number < inner:
			line = append(line, node(number+d.roll(inner-number)))
		}
	}
	return line
}

// spoil changes one thing of the code, mostly by little.
func spoil(d *dice, c *api.Code) {
	by := []int{-1, 1, -2, 2, 1000000, -1000000, least, greatest}[d.roll(8)]
	f := &c.Funs[d.roll(len(c.Funs))]
	number := d.roll(len(f.Lines))
	line := f.Lines[number]
	switch d.roll(9) {
	case 0:
		c.Main += by
	case 1:
		f.Arity += by
	case 2:
		c.Funs = c.Funs[:d.roll(len(c.Funs))]
	case 3:
		f.Lines = f.Lines[:d.roll(len(f.Lines))]
	case 4:
		f.Lines[number] = line[:d.roll(len(line))]
	case 5:
		f.Lines[number] = append(line, line...)
	case 6:
		line[d.roll(len(line))].Kind += by
	case 7:
		f.Lines = append(f.Lines, f.Lines...)
	default:
		line[d.roll(len(line))].N += by
	}
}

// codePieces: what is put into code texts.
var codePieces = []string{"", " ", "\n", "0", "1", "6", "7", "9", "13", "17", "n", "a", "f", "p", "x", "x0", " n1", " x1", "a0", "F", "M", "F 0 0\n", "M 0 1\n", "n5\n", "-", "+", "\r", "\t", "\x00", "\xff", "999999"}

func changeCode(d *dice, text string) string {
	at := d.roll(len(text))
	put := codePieces[d.roll(len(codePieces))]
	return text[:at] + put + text[min(at+d.roll(3), len(text)):]
}

// changeLines takes a line out, or lays one in another's place, or behind it.
func changeLines(d *dice, text string) string {
	lines := strings.SplitAfter(text, "\n")
	at := d.roll(len(lines))
	from := d.roll(len(lines))
	switch d.roll(3) {
	case 0:
		lines[at] = ""
	case 1:
		lines[at] = lines[from]
	default:
		lines[at] += lines[from]
	}
	return strings.Join(lines, "")
}

func TestP1EveryCodeText(t *testing.T) {
	d := dice{3}
	for range 5000 {
		text := textOf(throwCode(&d))
		readHolds(t, text)
		readHolds(t, text[:d.roll(len(text))])
		for range 5 {
			readHolds(t, changeCode(&d, text))
			readHolds(t, changeLines(&d, text))
			readHolds(t, changeLines(&d, changeCode(&d, text)))
		}
	}
	for b := range 256 {
		for _, x := range goodCode {
			text := barred(x.text)
			at := d.roll(len(text))
			readHolds(t, text[:at]+string([]byte{byte(b)})+text[at:])
			readHolds(t, text[:at]+string([]byte{byte(b)})+text[at+1:])
		}
		for c := range 256 {
			readHolds(t, string([]byte{byte(b), byte(c)}))
			readHolds(t, "M 0 1\nF 0 0\n"+string([]byte{byte(b), byte(c)})+"\n")
		}
	}
	for _, piece := range codePieces {
		for _, n := range []int{1, 2, 10, 1000, 30000, 30001} {
			readHolds(t, strings.Repeat(piece, n))
			readHolds(t, "M 0 1\nF 0 0\n"+strings.Repeat(piece, n))
		}
	}
}

func TestP1EveryCode(t *testing.T) {
	d := dice{4}
	good := 0
	for range 30000 {
		c := throwCode(&d)
		if !writeHolds(t, c) {
			t.Fatalf("the code %v is thought to be good", c)
		}
		spoil(&d, &c)
		if writeHolds(t, c) {
			good++
		}
	}
	if good < 3000 || good > 27000 {
		t.Errorf("%d of the 30000 changed codes are good", good)
	}
	for _, c := range []api.Code{{}, {Main: least, Funs: make([]api.Template, 16)}, {Funs: make([]api.Template, 1000000)}, {Funs: []api.Template{{Lines: make([][]api.Atom, 13)}}}} {
		refuses(t, c)
	}
}

// Every text that Compile is given: the error of Check, and with it no text.
func TestP1EveryCompile(t *testing.T) {
	d := dice{6}
	for range 20000 {
		for _, src := range []string{throw(&d), change(&d)} {
			_, want := redex.Check(src)
			text, e := redex.Compile(src)
			if e != want || (text != "") != (e == api.OK) {
				t.Errorf("P3: Compile(%.80q) = %q, %d, Check tells %d", src, text, e, want)
			}
			if e == api.OK {
				readHolds(t, text)
			}
		}
	}
}

// roomy: the code with spare room behind each list, and marks in it.
func roomy(c api.Code) api.Code {
	mark := api.Template{Arity: -7, Lines: [][]api.Atom{{{Kind: -7, N: -7}}}}
	funs := append(append([]api.Template{}, c.Funs...), mark, mark)
	for i := range c.Funs {
		lines := append(append([][]api.Atom{}, funs[i].Lines...), mark.Lines[0], mark.Lines[0])
		for j, line := range c.Funs[i].Lines {
			lines[j] = append(append([]api.Atom{}, line...), mark.Lines[0][0], mark.Lines[0][0])[:len(line)]
		}
		funs[i].Lines = lines[:len(c.Funs[i].Lines)]
	}
	return api.Code{Main: c.Main, Funs: funs[:len(c.Funs)]}
}

// whole: the code with the spare room of each list in the list.
func whole(c api.Code) api.Code {
	all := api.Code{Main: c.Main, Funs: append([]api.Template{}, c.Funs[:cap(c.Funs)]...)}
	for i := range all.Funs {
		lines := all.Funs[i].Lines
		all.Funs[i].Lines = append([][]api.Atom{}, lines[:cap(lines)]...)
		for j, line := range all.Funs[i].Lines {
			all.Funs[i].Lines[j] = append([]api.Atom{}, line[:cap(line)]...)
		}
	}
	return all
}

// Write writes into nothing that it is given, nor behind it.
func TestP2WriteLeaves(t *testing.T) {
	d := dice{7}
	for i := range 5000 {
		c := throwCode(&d)
		if i%2 == 1 {
			spoil(&d, &c)
		}
		given := roomy(c)
		before := whole(given)
		first, e := redex.Write(given)
		if !reflect.DeepEqual(whole(given), before) {
			t.Fatalf("P2: Write(%v) leaves %v, with the spare room", before, whole(given))
		}
		// The same code without spare room, and after another was written.
		redex.Write(goodCode[i%len(goodCode)].c)
		second, f := redex.Write(c)
		if first != second || e != f {
			t.Errorf("P2: Write(%v) = %q, %d, then %q, %d", c, first, e, second, f)
		}
	}
}

// scribble writes into all lists of the code and into their spare room.
func scribble(c api.Code) {
	all := c.Funs[:cap(c.Funs)]
	for i := range all {
		lines := all[i].Lines[:cap(all[i].Lines)]
		for j := range lines {
			line := lines[j][:cap(lines[j])]
			for k := range line {
				line[k] = api.Atom{Kind: -9, N: -9}
			}
			lines[j] = nil
		}
		all[i] = api.Template{Arity: -9}
	}
}

// What Read answers is the caller's alone.
func TestP2ReadFresh(t *testing.T) {
	d := dice{8}
	for range 3000 {
		c := throwCode(&d)
		text := textOf(c)
		kept, _, _ := redex.Read(text)
		spoilt, _, _ := redex.Read(text)
		scribble(spoilt)
		again, line, e := redex.Read(text)
		if !reflect.DeepEqual(kept, c) || !reflect.DeepEqual(again, c) || line != 0 || e != api.OK {
			t.Fatalf("P2: Read(%q) is changed by what a caller did to another answer", text)
		}
		grows(t, kept, c)
	}
}

// grows: no list of the code shares its spare room with another.
func grows(t *testing.T, c, want api.Code) {
	t.Helper()
	for i := range c.Funs {
		for j := range c.Funs[i].Lines {
			line := c.Funs[i].Lines[j]
			for k := range line[len(line):cap(line)] {
				line[:cap(line)][len(line)+k] = api.Atom{Kind: -9, N: -9}
			}
		}
		lines := c.Funs[i].Lines
		for k := range lines[len(lines):cap(lines)] {
			lines[:cap(lines)][len(lines)+k] = times(1, num(-9))
		}
	}
	funs := c.Funs
	for k := range funs[len(funs):cap(funs)] {
		funs[:cap(funs)][len(funs)+k] = api.Template{Arity: -9}
	}
	if !reflect.DeepEqual(c, want) {
		t.Fatalf("P2: %v becomes %v when spare room is written into", want, c)
	}
}

// Answers hang on the arguments alone: not on what was asked before, nor on where the bytes lie.
func TestP2SameCodeAnswers(t *testing.T) {
	type answer struct {
		compiled string
		e, f     api.Errno
		line     int
		c        api.Code
	}
	ask := func(src, text string) answer {
		var a answer
		a.compiled, a.e = redex.Compile(src)
		a.c, a.line, a.f = redex.Read(text)
		return a
	}
	var sources, texts []string
	var first []answer
	d := dice{9}
	for i := range 2000 {
		src, text := throwProgram(&d), textOf(throwCode(&d))
		if i%2 == 0 {
			src, text = throw(&d), changeCode(&d, text)
		}
		sources = append(sources, src)
		texts = append(texts, text)
		first = append(first, ask(src, text))
	}
	for i := len(texts) - 1; i >= 0; i-- {
		a := ask(string([]byte(sources[i])), string([]byte(texts[i])))
		if !reflect.DeepEqual(a, first[i]) {
			t.Errorf("P2: %.80q and %.80q: %v, then %v", sources[i], texts[i], first[i], a)
		}
	}
}
