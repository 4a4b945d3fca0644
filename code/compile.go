package code

import (
	"strings"

	"tariff/api"
	"tariff/expr"
)

// compile is the code of nodes in form. These stand in the order of their instructions; what is
// still needed is what separates the parts of an OIf or an OIn.
func compile(nodes []api.Node) []api.Ins {
	between := separators(nodes)
	var code []api.Ins
	var jumps []int // where the jumps are that lead to what is not written yet, the innermost last
	for at, n := range nodes {
		if op, ok := between[at]; ok {
			if op != api.IEnter {
				jumps = append(jumps, len(code))
			}
			code = append(code, api.Ins{Op: op})
		}
		switch n.Op {
		case api.OIf:
			rest := len(jumps) - 2
			unless, jump := jumps[rest], jumps[rest+1]
			code[unless].A, code[jump].A = jump+1, len(code)
			jumps = jumps[:rest]
		case api.OIn:
			code = append(code, api.Ins{Op: api.ILeave})
		default:
			code = append(code, instruction(n))
		}
	}
	return code
}

// separators is the instructions that separate parts, by the node with which the second one begins.
// No two parts but first ones begin with the same node.
func separators(nodes []api.Node) map[int]int {
	between := map[int]int{}
	for at, n := range nodes {
		if n.Op != api.OIf && n.Op != api.OIn {
			continue
		}
		parts, _ := expr.Parts(nodes, at) // the nodes are in form
		if n.Op == api.OIn {
			between[parts[0]+1] = api.IEnter
			continue
		}
		between[parts[0]+1] = api.IUnless
		between[parts[1]+1] = api.IJump
	}
	return between
}

// instruction is that of a node that is neither an OIf nor an OIn.
func instruction(n api.Node) api.Ins {
	ins := api.Ins{Op: n.Op, Text: strings.Clone(n.Text), Num: n.Num, Day: n.Day}
	switch n.Op {
	case api.OCall, api.OList, api.OCtx, api.OSome:
		ins.A = n.Kids
	}
	return ins
}
