package codetext

import (
	"strconv"

	"redex/api"
)

// Write: the text of good code (P6).
func Write(c api.Code) (string, api.Errno) {
	if !isGood(c) {
		return "", api.ErrCode
	}
	text := writePair("M", c.Main, len(c.Funs))
	for _, t := range c.Funs {
		lines := writeTemplate(t)
		text += lines
	}
	return text, api.OK
}

func writeTemplate(t api.Template) string {
	text := writePair("F", t.Arity, len(t.Lines)-1)
	for _, line := range t.Lines {
		atoms := writeAtoms(line)
		text += atoms
	}
	return text
}

// writePair: a line of this letter and two numbers.
func writePair(letter string, first int, second int) string {
	return letter + " " + strconv.Itoa(first) + " " + strconv.Itoa(second) + "\n"
}

// writeAtoms: a line of atoms.
func writeAtoms(line []api.Atom) string {
	text := ""
	for i, a := range line {
		if i > 0 {
			text += " "
		}
		text += letterOf(a.Kind) + strconv.Itoa(a.N)
	}
	return text + "\n"
}

// letterOf: the letter of a kind of atoms, "" if it is none.
func letterOf(kind int) string {
	switch kind {
	case api.Num:
		return "n"
	case api.Arg:
		return "a"
	case api.Fun:
		return "f"
	case api.Prim:
		return "p"
	case api.Node:
		return "x"
	}
	return ""
}
