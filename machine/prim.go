package machine

import "redex/api"

// wanted: how many arguments a primitive takes.
func wanted(prim int) int {
	if prim == api.Less || prim == api.Equal {
		return 4
	}
	return 2
}

// askFirst goes on with the first argument of the primitive that is on top.
func (m *machine) askFirst(prim int) {
	m.pop()
	argument := m.pop()
	m.wait(frame{kind: firstFrame, prim: prim})
	m.push(argument)
}

// askSecond goes on with the second argument, the first having come to the number.
func (m *machine) askSecond(f frame, number int) {
	m.dropFrame()
	m.pop()
	argument := m.pop()
	m.wait(frame{kind: secondFrame, prim: f.prim, number: number})
	m.push(argument)
}

// compute makes the step of the primitive whose second argument has come to the number.
func (m *machine) compute(f frame, number int) {
	may := m.mayStep()
	if !may {
		return
	}
	m.steps++
	m.dropFrame()
	m.pop()
	switch f.prim {
	case api.Less:
		m.choose(f.number < number)
	case api.Equal:
		m.choose(f.number == number)
	default:
		m.calculate(f.prim, f.number, number)
	}
}

// choose leaves the first of the next two items, or the second.
func (m *machine) choose(isFirst bool) {
	first := m.pop()
	second := m.pop()
	if isFirst {
		m.push(first)
	} else {
		m.push(second)
	}
}

// calculate puts the sum, the difference or the product on the stack. A product of two numbers up
// to MaxNum needs 64 bits.
func (m *machine) calculate(prim int, first int, second int) {
	n := int64(first)
	switch prim {
	case api.Add:
		n += int64(second)
	case api.Sub:
		n -= int64(second)
	default:
		n *= int64(second)
	}
	if n > api.MaxNum || n < -api.MaxNum {
		m.outcome = api.Over
		return
	}
	m.push(item{kind: api.Num, n: int(n)})
}
