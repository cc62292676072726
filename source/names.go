package source

import "redex/api"

// definition: the function's name; its parameters; the tokens of its application.
type definition struct {
	name       token
	parameters []token
	body       []token
}

// cutDefinitions: the definitions of tokens that the grammar has no fault with.
func cutDefinitions(tokens []token) []definition {
	var list []definition
	var d definition
	awaits := awaitFunction
	for _, t := range tokens {
		switch {
		case t.kind == endToken:
			list = append(list, d)
			d = definition{}
			awaits = awaitFunction
		case t.kind == equalsToken:
			awaits = awaitHead
		case awaits == awaitFunction:
			d.name = t
			awaits = awaitParameter
		case awaits == awaitParameter:
			d.parameters = append(d.parameters, t)
		default:
			d.body = append(d.body, t)
		}
	}
	return list
}

// checkTwice tells the first name that is given a second time.
func checkTwice(list []definition) (int, api.Errno) {
	for i, d := range list {
		if findFunction(list[:i], d.name.text) >= 0 {
			return d.name.at, api.ErrTwice
		}
		for j, p := range d.parameters {
			if findParameter(d.parameters[:j], p.text) >= 0 {
				return p.at, api.ErrTwice
			}
		}
	}
	return 0, api.OK
}

// checkNames tells the first name in an application that nobody gave.
func checkNames(list []definition) (int, api.Errno) {
	for _, d := range list {
		for _, t := range d.body {
			if t.kind != nameToken || findParameter(d.parameters, t.text) >= 0 {
				continue
			}
			if findFunction(list, t.text) < 0 {
				return t.at, api.ErrName
			}
		}
	}
	return 0, api.OK
}

// checkMain tells whether there is a main without parameters.
func checkMain(list []definition) api.Errno {
	main := findFunction(list, "main")
	if main < 0 || len(list[main].parameters) > 0 {
		return api.ErrMain
	}
	return api.OK
}

// findFunction: the number of the function with this name, -1 if there is none.
func findFunction(list []definition, name string) int {
	for i, d := range list {
		if d.name.text == name {
			return i
		}
	}
	return -1
}

// findParameter: the number of the parameter with this name, -1 if there is none.
func findParameter(parameters []token, name string) int {
	for i, p := range parameters {
		if p.text == name {
			return i
		}
	}
	return -1
}
