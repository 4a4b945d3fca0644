package calc

import (
	"slices"

	"tariff/api"
)

// machine executes the code of some nodes. What it holds may share memory with what it was given,
// and with itself: nothing is ever changed in place, and what it answers is cloned.
type machine struct {
	names api.Value
	stack []api.Value
	asked []api.Value // what tests are asked of, the innermost last
}

// run is the value that code comes to.
func (m *machine) run(list []api.Ins) (api.Value, api.Errno) {
	at := 0
fetch:
	if at == len(list) {
		return m.pop(), api.OK
	}
	ins := list[at]
	at++
	switch ins.Op {
	case api.IJump:
		at = ins.A
	case api.IUnless:
		if v := m.pop(); v.Kind != api.Bool || !v.Yes {
			at = ins.A
		}
	case api.IEnter:
		m.asked = append(m.asked, m.pop())
	case api.ILeave:
		m.asked = m.asked[:len(m.asked)-1]
	default:
		v, e := m.execute(ins)
		if e != api.OK {
			return api.Value{}, e
		}
		m.stack = append(m.stack, v)
	}
	goto fetch
}

// execute is the value of the node of an instruction; it takes those of its parts off the stack.
func (m *machine) execute(ins api.Ins) (api.Value, api.Errno) {
	switch ins.Op {
	case api.ONull, api.OTrue, api.OFalse, api.ONum, api.OText, api.ODate, api.OAny:
		return constant(ins), api.OK
	case api.OName:
		return entry(m.names, ins.Text), api.OK
	case api.ONeg, api.OPath, api.OEntry, api.ONot:
		return ofOne(ins, m.pop()), api.OK
	case api.OIs, api.OBelow, api.OAtMost, api.OAbove, api.OAtLeast:
		return compare(ins.Op, m.question(), m.pop()), api.OK
	case api.OSpan:
		ends := m.take(2)
		return within(m.question(), ins.Text, ends[0], ends[1]), api.OK
	case api.OBetween:
		parts := m.take(3)
		return within(parts[0], "[]", parts[1], parts[2]), api.OK
	case api.OCall:
		return call(ins.Text, m.take(ins.A))
	case api.OList:
		return checked(api.Value{Kind: api.List, List: slices.Clone(m.take(ins.A))})
	case api.OCtx:
		return checked(joined(m.take(ins.A)))
	case api.OSome:
		return some(m.take(ins.A)), api.OK
	}
	parts := m.take(2)
	return ofTwo(ins.Op, parts[0], parts[1])
}

// take takes so many values off the stack. They are to be read before the next one is put on it.
func (m *machine) take(n int) []api.Value {
	rest := len(m.stack) - n
	taken := m.stack[rest:]
	m.stack = m.stack[:rest]
	return taken
}

// pop takes a value off the stack.
func (m *machine) pop() api.Value {
	return m.take(1)[0]
}

// question is the value that tests are asked of.
func (m *machine) question() api.Value {
	return m.asked[len(m.asked)-1]
}
