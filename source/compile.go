package source

import (
	"redex/api"
	"redex/codetext"
)

// Compile: the code text of a program (P5).
func Compile(src string) (string, api.Errno) {
	list, _, e := parse(src)
	if e != api.OK {
		return "", e
	}
	c := api.Code{Main: findFunction(list, "main")}
	for _, d := range list {
		t := api.Template{Arity: len(d.parameters), Lines: cutLines(list, d)}
		c.Funs = append(c.Funs, t)
	}
	return codetext.Write(c)
}

// cutLines: the spine and the inner applications of a definition.
func cutLines(list []definition, d definition) [][]api.Atom {
	var l layout
	l.begin()
	for i, t := range d.body {
		if isNeedless(d.body, i) {
			continue
		}
		switch t.kind {
		case openToken:
			// The line that begins now has the number len(l.lines), and inner application i is line i + 1.
			inner := len(l.lines) - 1
			l.put(api.Atom{Kind: api.Node, N: inner})
			l.begin()
		case closeToken:
			l.end()
		default:
			a := simpleAtom(list, d, t)
			l.put(a)
		}
	}
	return l.lines
}

// layout: the lines of a template so far; the numbers of those that are not ended, the outermost first.
type layout struct {
	lines [][]api.Atom
	open  []int
}

// begin begins a line. Lines begin in the order of their opening parentheses, and so get their numbers.
func (l *layout) begin() {
	l.open = append(l.open, len(l.lines))
	l.lines = append(l.lines, nil)
}

// put lays an atom into the innermost line that is not ended.
func (l *layout) put(a api.Atom) {
	last := len(l.open) - 1
	if last < 0 || l.open[last] >= len(l.lines) {
		return
	}
	number := l.open[last]
	l.lines[number] = append(l.lines[number], a)
}

// end ends the innermost line that is not ended.
func (l *layout) end() {
	last := len(l.open) - 1
	if last >= 0 {
		l.open = l.open[:last]
	}
}

// simpleAtom: the atom of a name, a number or a primitive in the application of this definition.
func simpleAtom(list []definition, d definition, t token) api.Atom {
	switch t.kind {
	case numberToken:
		return api.Atom{Kind: api.Num, N: numberOf(t.text)}
	case primToken:
		return api.Atom{Kind: api.Prim, N: primOf(t.text)}
	}
	parameter := findParameter(d.parameters, t.text)
	if parameter >= 0 {
		return api.Atom{Kind: api.Arg, N: parameter}
	}
	return api.Atom{Kind: api.Fun, N: findFunction(list, t.text)}
}

// numberOf: the value of the digits of a token.
func numberOf(digits string) int {
	n := 0
	for i := 0; i < len(digits); i++ {
		n = 10*n + int(digits[i]-'0')
	}
	return n
}

// primOf: the number of a primitive.
func primOf(text string) int {
	switch text {
	case "+":
		return api.Add
	case "-":
		return api.Sub
	case "*":
		return api.Mul
	case "<":
		return api.Less
	}
	return api.Equal
}
