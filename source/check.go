package source

import "redex/api"

// Check tells the place and the error of the first fault of a source text (P3).
func Check(src string) (int, api.Errno) {
	_, at, e := parse(src)
	return at, e
}

// parse: the definitions of a program, or the place and the error that Check tells.
func parse(src string) ([]definition, int, api.Errno) {
	if len(src) > api.MaxText {
		return nil, 0, api.ErrLong
	}
	tokens := cutTokens(src)
	at, e := checkGrammar(src, tokens)
	if e != api.OK {
		return nil, at, e
	}
	list := cutDefinitions(tokens)
	at, e = checkTwice(list)
	if e != api.OK {
		return nil, at, e
	}
	at, e = checkNames(list)
	if e != api.OK {
		return nil, at, e
	}
	e = checkMain(list)
	if e != api.OK {
		return nil, 0, e
	}
	return list, 0, api.OK
}
