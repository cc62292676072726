// Package machine: the machine that runs code: a stack of items, a list of frames, and a heap of nodes.
package machine

import (
	"redex/api"
	"redex/codetext"
)

// Run: what the code of a code text comes to (P8 to P10).
func Run(text string, budget int, heap int) (api.Result, api.Errno) {
	c, _, e := codetext.Read(text)
	if e != api.OK {
		return api.Result{}, e
	}
	if budget < 0 || budget > api.MaxBudget {
		return api.Result{}, api.ErrArg
	}
	if heap < 0 || heap > api.MaxHeap {
		return api.Result{}, api.ErrArg
	}
	m := machine{funs: c.Funs, budget: budget, heap: heap}
	m.push(item{kind: api.Fun, n: c.Main})
	// This ends, though not every move is a step. A new node points to what was there before it and
	// to later lines of its template, so no node is reached from itself; each is entered at most
	// once while it is not done; and a node that is done begins with no pointer.
	for m.outcome == 0 {
		m.move()
	}
	return api.Result{Outcome: m.outcome, Value: m.value, Steps: m.steps}, api.OK
}

// machine: what a run works on, and what it came to: the outcome is 0 while there is none.
type machine struct {
	funs    []api.Template
	budget  int
	heap    int // how many nodes there is room for
	stack   []item
	frames  []frame
	nodes   []node
	free    []int // places of nodes that are no longer needed
	steps   int
	outcome int
	value   int
}

// move goes on by the top of the stack.
func (m *machine) move() {
	top, arguments := m.look()
	switch top.kind {
	case api.Node:
		m.enter()
	case api.Fun:
		t := m.template(top.n)
		if arguments >= t.Arity {
			m.call(t)
		} else {
			m.deliver(top)
		}
	case api.Prim:
		if arguments >= wanted(top.n) {
			m.askFirst(top.n)
		} else {
			m.deliver(top)
		}
	default:
		if arguments > 0 {
			m.outcome = api.Wrong
		} else {
			m.deliver(top)
		}
	}
}

// mayStep: the budget allows one more step; if not, it is spent, and the run ends.
func (m *machine) mayStep() bool {
	if m.steps >= m.budget {
		m.outcome = api.Spent
		return false
	}
	return true
}

// deliver gives the value that is on top to the top frame; if there is none, it is what comes out.
func (m *machine) deliver(top item) {
	if len(m.frames) == 0 {
		m.finish(top)
		return
	}
	f := m.frames[len(m.frames)-1]
	if f.kind == updateFrame {
		m.update(f)
		return
	}
	if top.kind != api.Num {
		m.outcome = api.Wrong
		return
	}
	if f.kind == firstFrame {
		m.askSecond(f, top.n)
	} else {
		m.compute(f, top.n)
	}
}

// finish ends the run with the value.
func (m *machine) finish(top item) {
	if top.kind == api.Num {
		m.outcome = api.Number
		m.value = top.n
	} else {
		m.outcome = api.Function
	}
}
