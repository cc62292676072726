package source

import "redex/api"

// What may come next in a source text.
const (
	awaitFunction  = iota // the name of a function, or the end of the text
	awaitParameter        // the name of a parameter, or =
	awaitHead             // the head of an application
	awaitPart             // a further part of an application, or its end
)

// grammar: what is known of the tokens that were taken.
type grammar struct {
	awaits     int
	functions  int   // functions so far
	parameters int   // parameters of the function so far
	nodes      int   // inner applications of the function so far
	width      int   // parts of the innermost application that is not ended
	around     []int // the widths of the applications around that one, the outermost first
}

// checkGrammar tells the first token that cannot stand or passes a bound, or that the text ends too early.
func checkGrammar(src string, tokens []token) (int, api.Errno) {
	var g grammar
	for _, t := range tokens {
		e := g.take(t.kind)
		if e != api.OK {
			return t.at, e
		}
	}
	if g.functions == 0 || g.awaits != awaitFunction {
		return len(src), api.ErrText
	}
	return 0, api.OK
}

// take takes the next token, or tells why it may not come next.
func (g *grammar) take(kind int) api.Errno {
	switch g.awaits {
	case awaitFunction:
		return g.takeFunction(kind)
	case awaitParameter:
		return g.takeParameter(kind)
	case awaitHead:
		return g.takeHead(kind)
	}
	return g.takePart(kind)
}

func (g *grammar) takeFunction(kind int) api.Errno {
	if kind != nameToken {
		return api.ErrText
	}
	if g.functions >= api.MaxFuns {
		return api.ErrLimit
	}
	g.functions++
	g.parameters = 0
	g.awaits = awaitParameter
	return api.OK
}

func (g *grammar) takeParameter(kind int) api.Errno {
	if kind == equalsToken {
		g.nodes = 0
		g.awaits = awaitHead
		return api.OK
	}
	if kind != nameToken {
		return api.ErrText
	}
	if g.parameters >= api.MaxParams {
		return api.ErrLimit
	}
	g.parameters++
	return api.OK
}

func (g *grammar) takeHead(kind int) api.Errno {
	if !isSimple(kind) {
		return api.ErrText
	}
	g.width = 1
	g.awaits = awaitPart
	return api.OK
}

func (g *grammar) takePart(kind int) api.Errno {
	switch kind {
	case endToken:
		return g.endDefinition()
	case closeToken:
		return g.endInner()
	case openToken:
		return g.beginInner()
	}
	if !isSimple(kind) {
		return api.ErrText
	}
	return g.countPart()
}

func (g *grammar) endDefinition() api.Errno {
	if len(g.around) > 0 {
		return api.ErrText
	}
	g.awaits = awaitFunction
	return api.OK
}

func (g *grammar) endInner() api.Errno {
	last := len(g.around) - 1
	if last < 0 {
		return api.ErrText
	}
	g.width = g.around[last]
	g.around = g.around[:last]
	return api.OK
}

func (g *grammar) beginInner() api.Errno {
	e := g.countPart()
	if e != api.OK {
		return e
	}
	g.around = append(g.around, g.width)
	g.awaits = awaitHead
	return api.OK
}

// countPart counts a part behind the head. The second part of an application in parentheses
// makes it an inner application: with a head alone it is none, so it is not counted sooner.
func (g *grammar) countPart() api.Errno {
	if g.width >= api.MaxWidth {
		return api.ErrLimit
	}
	g.width++
	if g.width != 2 || len(g.around) == 0 {
		return api.OK
	}
	if g.nodes >= api.MaxNodes {
		return api.ErrLimit
	}
	g.nodes++
	return api.OK
}

func isSimple(kind int) bool {
	return kind == nameToken || kind == numberToken || kind == primToken
}
