package source

import "redex/api"

// definition: the function's name; its parameters; the tokens of its application.
type definition struct {
	name       token
	parameters []token
	body       []token
}

// cutDefinitions: the definitions of tokens that the grammar has no fault with.
func cutDefinitions(tokens []token) []definition {
	var list []definition
	var d definition
	awaits := awaitFunction
	for _, t := range tokens {
		switch {
		case t.kind == endToken:
			list = append(list, d)
			d = definition{}
			awaits = awaitFunction
		case t.kind == equalsToken:
			awaits = awaitHead
		case awaits == awaitFunction:
			d.name = t
			awaits = awaitParameter
		case awaits == awaitParameter:
			d.parameters = append(d.parameters, t)
		default:
			d.body = append(d.body, t)
		}
	}
	return list
}

// checkTwice tells the first name that is given a second time.
func checkTwice(list []definition) (int, api.Errno) {
	for i, d := range list {
		if hasFunction(list[:i], d.name.text) {
			return d.name.at, api.ErrTwice
		}
		for j, p := range d.parameters {
			if hasParameter(d.parameters[:j], p.text) {
				return p.at, api.ErrTwice
			}
		}
	}
	return 0, api.OK
}

// checkNames tells the first name in an application that nobody gave.
func checkNames(list []definition) (int, api.Errno) {
	for _, d := range list {
		for _, t := range d.body {
			if t.kind != nameToken || hasParameter(d.parameters, t.text) {
				continue
			}
			if !hasFunction(list, t.text) {
				return t.at, api.ErrName
			}
		}
	}
	return 0, api.OK
}

// checkMain tells whether there is a main without parameters.
func checkMain(list []definition) api.Errno {
	for _, d := range list {
		if d.name.text == "main" && len(d.parameters) == 0 {
			return api.OK
		}
	}
	return api.ErrMain
}

func hasFunction(list []definition, name string) bool {
	for _, d := range list {
		if d.name.text == name {
			return true
		}
	}
	return false
}

func hasParameter(parameters []token, name string) bool {
	for _, p := range parameters {
		if p.text == name {
			return true
		}
	}
	return false
}
