package source

import "redex/api"

// Show writes a program as it is always written (P4).
func Show(src string) (string, api.Errno) {
	list, _, e := parse(src)
	if e != api.OK {
		return "", e
	}
	text := ""
	for _, d := range list {
		line := showDefinition(d)
		text += line
	}
	return text, api.OK
}

func showDefinition(d definition) string {
	text := d.name.text
	for _, p := range d.parameters {
		text += " " + p.text
	}
	body := showBody(d.body)
	return text + " =" + body + ";\n"
}

// showBody: the tokens of an application that is no inner one, with the blank ahead of it.
func showBody(body []token) string {
	text := ""
	behindOpen := false
	for i, t := range body {
		if isNeedless(body, i) {
			continue
		}
		if t.kind != closeToken && !behindOpen {
			text += " "
		}
		shown := showToken(t)
		text += shown
		behindOpen = t.kind == openToken
	}
	return text
}

// isNeedless: whether the token is a parenthesis round a head alone. Then the other one stands
// two further on, or two back: between parentheses that are so near there is room for no more.
func isNeedless(body []token, i int) bool {
	switch kindAt(body, i) {
	case openToken:
		return kindAt(body, i+2) == closeToken
	case closeToken:
		return kindAt(body, i-2) == openToken
	}
	return false
}

// kindAt: the kind of a token by its number, badToken if there is none.
func kindAt(body []token, i int) int {
	if i < 0 || i >= len(body) {
		return badToken
	}
	return body[i].kind
}

func showToken(t token) string {
	if t.kind == numberToken {
		return withoutNoughts(t.text)
	}
	return t.text
}

// withoutNoughts: the digits without the noughts ahead, but the last digit stays.
func withoutNoughts(digits string) string {
	first := 0
	for first+1 < len(digits) && digits[first] == '0' {
		first++
	}
	return digits[first:]
}
