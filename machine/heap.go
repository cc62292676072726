package machine

import "redex/api"

// node: an application that is not worked out yet or, if it is done, its value.
type node struct {
	items []item
	done  bool
}

// enter takes the pointer off that is on top, and goes on with what its node holds.
func (m *machine) enter() {
	pointer := m.pop()
	at := pointer.n
	if at < 0 || at >= len(m.nodes) {
		return
	}
	if !m.nodes[at].done {
		m.wait(frame{kind: updateFrame, node: at})
	}
	m.put(m.nodes[at].items)
}

// update lays the value that is on top into the node that waits for it, so that it is worked out once.
func (m *machine) update(f frame) {
	value := m.active()
	m.dropFrame()
	m.lay(f.node, node{items: value, done: true})
}

// lay gives a node's place what is to be there from now on.
func (m *machine) lay(at int, n node) {
	if at >= 0 && at < len(m.nodes) {
		m.nodes[at] = n
	}
}

func (m *machine) template(number int) api.Template {
	if number < 0 || number >= len(m.funs) {
		return api.Template{}
	}
	return m.funs[number]
}

// call makes the step of a function that has its arguments.
func (m *machine) call(t api.Template) {
	may := m.mayStep()
	if !may {
		return
	}
	inner := len(t.Lines) - 1
	fits := m.makeRoom(inner)
	if !fits {
		m.outcome = api.Full
		return
	}
	m.steps++
	m.pop()
	arguments := m.popMany(t.Arity)
	places := m.takePlaces(inner)
	for i, line := range t.Lines {
		items := instantiate(line, arguments, places)
		if i == 0 {
			m.put(items)
		} else if i <= len(places) {
			m.lay(places[i-1], node{items: items})
		}
	}
}

// instantiate: the items of a line; the new node of inner application i is at places[i].
func instantiate(line []api.Atom, arguments []item, places []int) []item {
	var items []item
	for _, a := range line {
		x := item{kind: a.Kind, n: a.N}
		switch {
		case a.Kind == api.Node && a.N >= 0 && a.N < len(places):
			x.n = places[a.N]
		case a.Kind == api.Arg && a.N >= 0 && a.N < len(arguments):
			x = arguments[a.N]
		}
		items = append(items, x)
	}
	return items
}
