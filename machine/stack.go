package machine

// item: a number, a function, a primitive, or a pointer to a node. Its kind is that of such an
// atom; its number is that of the atom, but a pointer's is the place of the node in the heap.
type item struct {
	kind int
	n    int
}

// The kinds of frames.
const (
	updateFrame = 1
	firstFrame  = 2
	secondFrame = 3
)

// frame: what waits for a value; the items above its height are worked on for it.
type frame struct {
	kind   int
	height int
	node   int // of an update frame: the place of the node
	prim   int // of a first and a second frame
	number int // of a second frame: the value of the first argument
}

// floor: the height of the top frame.
func (m *machine) floor() int {
	if len(m.frames) == 0 {
		return 0
	}
	return m.frames[len(m.frames)-1].height
}

// look: the top of the stack, and how many arguments it has.
func (m *machine) look() (item, int) {
	last := len(m.stack) - 1
	if last < 0 {
		return item{}, 0
	}
	return m.stack[last], last - m.floor()
}

func (m *machine) push(x item) {
	m.stack = append(m.stack, x)
}

// put lays the items on the stack, so that the first becomes the top.
func (m *machine) put(items []item) {
	for i := len(items) - 1; i >= 0; i-- {
		m.push(items[i])
	}
}

// pop takes the top off.
func (m *machine) pop() item {
	last := len(m.stack) - 1
	if last < 0 {
		return item{}
	}
	x := m.stack[last]
	m.stack = m.stack[:last]
	return x
}

// popMany takes so many items off, the top first.
func (m *machine) popMany(count int) []item {
	var items []item
	for i := 0; i < count; i++ {
		x := m.pop()
		items = append(items, x)
	}
	return items
}

// active: the top and its arguments, in this order.
func (m *machine) active() []item {
	var items []item
	floor := m.floor()
	for i := len(m.stack) - 1; i >= floor; i-- {
		items = append(items, m.stack[i])
	}
	return items
}

// wait puts a frame at the height of the stack.
func (m *machine) wait(f frame) {
	f.height = len(m.stack)
	m.frames = append(m.frames, f)
}

// dropFrame takes the top frame away.
func (m *machine) dropFrame() {
	last := len(m.frames) - 1
	if last >= 0 {
		m.frames = m.frames[:last]
	}
}
