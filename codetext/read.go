package codetext

import "redex/api"

// Read: the code of a code text, or the number of the first line that cannot stand (P6).
func Read(text string) (api.Code, int, api.Errno) {
	if len(text) > api.MaxCode {
		return api.Code{}, 0, api.ErrLong
	}
	r := reader{rest: text}
	c, ok := r.readCode()
	if !ok {
		return api.Code{}, r.line, api.ErrCode
	}
	return c, 0, api.OK
}

// reader: what is not read yet of a code text; the number of the line that was asked for last.
type reader struct {
	rest string
	line int
}

// readCode reads the whole text. If it answers false, the reader stands at the line that is at fault.
func (r *reader) readCode() (api.Code, bool) {
	main, functions, ok := r.readPair("M")
	if !ok || !mayBegin(main, functions) {
		return api.Code{}, false
	}
	c := api.Code{Main: main}
	for i := 0; i < functions; i++ {
		t, ok := r.readTemplate(functions, i == main)
		if !ok {
			return api.Code{}, false
		}
		c.Funs = append(c.Funs, t)
	}
	r.line++
	return c, r.rest == ""
}

func (r *reader) readTemplate(functions int, isMain bool) (api.Template, bool) {
	arity, inner, ok := r.readPair("F")
	s := shape{functions: functions, arity: arity, inner: inner}
	if !ok || !s.mayStand(isMain) {
		return api.Template{}, false
	}
	t := api.Template{Arity: arity}
	for i := 0; i <= inner; i++ {
		line, ok := r.readAtoms()
		if !ok || !s.holdsLine(i, line) {
			return api.Template{}, false
		}
		t.Lines = append(t.Lines, line)
	}
	return t, true
}

// readPair reads a line of this letter and two numbers.
func (r *reader) readPair(letter string) (int, int, bool) {
	words := r.readWords()
	if len(words) != 3 || words[0] != letter {
		return 0, 0, false
	}
	first, ok := readNumber(words[1])
	if !ok {
		return 0, 0, false
	}
	second, ok := readNumber(words[2])
	return first, second, ok
}

// readAtoms reads a line of atoms.
func (r *reader) readAtoms() ([]api.Atom, bool) {
	words := r.readWords()
	var line []api.Atom
	for _, word := range words {
		a, ok := readAtom(word)
		if !ok {
			return nil, false
		}
		line = append(line, a)
	}
	return line, true
}

// readWords: the words of the next line, with an empty one wherever a blank is too many; none if
// there is no line with a newline.
func (r *reader) readWords() []string {
	r.line++
	var words []string
	begin := 0
	for i := 0; i < len(r.rest); i++ {
		b := r.rest[i]
		if b != ' ' && b != '\n' {
			continue
		}
		words = append(words, r.rest[begin:i])
		begin = i + 1
		if b == '\n' {
			r.rest = r.rest[begin:]
			return words
		}
	}
	return nil
}

func readAtom(word string) (api.Atom, bool) {
	if word == "" {
		return api.Atom{}, false
	}
	n, ok := readNumber(word[1:])
	return api.Atom{Kind: kindOf(word[0]), N: n}, ok
}

// kindOf: the kind of the atoms with this letter; if there is none 0, which stands in no good line.
func kindOf(letter byte) int {
	switch letter {
	case 'n':
		return api.Num
	case 'a':
		return api.Arg
	case 'f':
		return api.Fun
	case 'p':
		return api.Prim
	case 'x':
		return api.Node
	}
	return 0
}

// readNumber: the value of digits without needless noughts. No number of a code text has more
// than MaxDigits digits, so that the value of more is not asked for.
func readNumber(word string) (int, bool) {
	if word == "" || len(word) > api.MaxDigits {
		return 0, false
	}
	if word[0] == '0' && len(word) > 1 {
		return 0, false
	}
	n := 0
	for i := 0; i < len(word); i++ {
		if word[i] < '0' || word[i] > '9' {
			return 0, false
		}
		n = 10*n + int(word[i]-'0')
	}
	return n, true
}
