package code

import (
	"strings"

	"tariff/api"
)

// decompile is the nodes of code that Compile returned; of other code it is some nodes, whose
// code is not that.
func decompile(code []api.Ins) []api.Node {
	var nodes []api.Node
	var ends []int // where the conditionals end whose last part is being read, the innermost last
	at := 0
read:
	if n := len(ends); n > 0 && ends[n-1] == at {
		ends = ends[:n-1]
		nodes = append(nodes, api.Node{Op: api.OIf, Kids: 3})
		// Another one, around it, may end here too.
		goto read
	}
	if at == len(code) {
		return nodes
	}
	switch ins := code[at]; ins.Op {
	case api.IUnless, api.IEnter:
		// The nodes stand in order: what separates the parts of one tells nothing more.
	case api.IJump:
		ends = append(ends, ins.A)
	case api.ILeave:
		nodes = append(nodes, api.Node{Op: api.OIn, Kids: 2})
	default:
		nodes = append(nodes, node(ins))
	}
	at++
	goto read
}

// node is that of an instruction that a node has.
func node(ins api.Ins) api.Node {
	kids, _ := pops(ins)
	return api.Node{Op: ins.Op, Kids: kids, Text: strings.Clone(ins.Text), Num: ins.Num, Day: ins.Day}
}
