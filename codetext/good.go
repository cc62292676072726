// Package codetext: code texts: what good code is, how it is read, and how it is written.
package codetext

import "redex/api"

// isGood: whether the code is good (P6). Each list is measured ahead of its elements, so that a
// long one is not gone through.
func isGood(c api.Code) bool {
	functions := len(c.Funs)
	if !mayBegin(c.Main, functions) {
		return false
	}
	for i, t := range c.Funs {
		s := shape{functions: functions, arity: t.Arity, inner: len(t.Lines) - 1}
		if !s.mayStand(i == c.Main) || !s.holdsLines(t.Lines) {
			return false
		}
	}
	return true
}

// mayBegin: whether code may have so many functions, and main this number.
func mayBegin(main int, functions int) bool {
	if functions < 1 || functions > api.MaxFuns {
		return false
	}
	return main >= 0 && main < functions
}

// shape: what the atoms of a template are measured by: the functions of the code; the parameters
// and the inner applications of the template.
type shape struct {
	functions int
	arity     int
	inner     int
}

// mayStand: whether a template, main's or not, may have this shape.
func (s shape) mayStand(isMain bool) bool {
	if s.arity < 0 || s.arity > api.MaxParams {
		return false
	}
	if isMain && s.arity > 0 {
		return false
	}
	return s.inner >= 0 && s.inner <= api.MaxNodes
}

func (s shape) holdsLines(lines [][]api.Atom) bool {
	for i, line := range lines {
		if !s.holdsLine(i, line) {
			return false
		}
	}
	return true
}

// holdsLine: whether the atoms may be the line of this number, the spine being 0.
func (s shape) holdsLine(number int, line []api.Atom) bool {
	least := 2
	if number == 0 {
		least = 1
	}
	if len(line) < least || len(line) > api.MaxWidth {
		return false
	}
	for i, a := range line {
		if i == 0 && a.Kind == api.Node {
			return false
		}
		if !s.holdsAtom(number, a) {
			return false
		}
	}
	return true
}

// holdsAtom: whether the atom may stand in the line of this number. Inner application i is line
// i + 1, so it stands in a later line if i is not below the line's number.
func (s shape) holdsAtom(number int, a api.Atom) bool {
	switch a.Kind {
	case api.Num:
		return a.N >= 0 && a.N <= api.MaxConst
	case api.Arg:
		return a.N >= 0 && a.N < s.arity
	case api.Fun:
		return a.N >= 0 && a.N < s.functions
	case api.Prim:
		return a.N >= api.Add && a.N <= api.Equal
	case api.Node:
		return a.N >= number && a.N < s.inner
	}
	return false
}
