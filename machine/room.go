package machine

import "redex/api"

// makeRoom tells whether so many new nodes have room. It goes through the heap only if there is
// none otherwise: nodes that nothing points to any more may lie in it as long as nobody wants their places.
func (m *machine) makeRoom(count int) bool {
	room := m.room()
	if room < count {
		m.freeNodes()
		room = m.room()
	}
	return room >= count
}

// room: how many new nodes there are places for.
func (m *machine) room() int {
	return m.heap - len(m.nodes) + len(m.free)
}

// freeNodes frees the places of all nodes that are no longer needed.
func (m *machine) freeNodes() {
	needed := m.needed()
	m.free = nil
	for at, isNeeded := range needed {
		if !isNeeded {
			m.free = append(m.free, at)
		}
	}
}

// needed: for each place whether its node is needed.
func (m *machine) needed() []bool {
	s := search{needed: make([]bool, len(m.nodes))}
	s.reachAll(m.stack)
	for _, f := range m.frames {
		if f.kind == updateFrame {
			s.reach(f.node)
		}
	}
	// What is reached on the way is looked through too; each place is reached once.
	for i := 0; i < len(s.reached); i++ {
		at := s.reached[i]
		if at >= 0 && at < len(m.nodes) {
			s.reachAll(m.nodes[at].items)
		}
	}
	return s.needed
}

// search: the nodes that are known to be needed, and a list of their places.
type search struct {
	needed  []bool
	reached []int
}

// reachAll reaches the nodes that the items point to.
func (s *search) reachAll(items []item) {
	for _, x := range items {
		if x.kind == api.Node {
			s.reach(x.n)
		}
	}
}

func (s *search) reach(at int) {
	if at < 0 || at >= len(s.needed) || s.needed[at] {
		return
	}
	s.needed[at] = true
	s.reached = append(s.reached, at)
}

// takePlaces: the places of so many new nodes, of which there is room for all.
func (m *machine) takePlaces(count int) []int {
	var places []int
	for i := 0; i < count; i++ {
		at := m.takePlace()
		places = append(places, at)
	}
	return places
}

func (m *machine) takePlace() int {
	last := len(m.free) - 1
	if last < 0 {
		m.nodes = append(m.nodes, node{})
		return len(m.nodes) - 1
	}
	at := m.free[last]
	m.free = m.free[:last]
	return at
}
