package graphs

import (
	"thrift/api"
	"thrift/ops"
)

// Run is what a graph gives, if the inputs of all its nodes In are there.
func Run(graph []api.Node, inputs []api.Matrix) (api.Matrix, bool) {
	given := make([]api.Matrix, len(graph))
	for i, node := range graph {
		kind, _ := ops.Known(node.Op)
		work := ops.Work{Node: node}
		if node.Op == api.In {
			if !isThere(node, inputs) {
				return api.Matrix{}, false
			}
			work.Input = inputs[node.K]
		}
		if kind.Uses(ops.A) {
			work.A = given[node.A]
		}
		if kind.Uses(ops.B) {
			work.B = given[node.B]
		}
		given[i] = kind.Gives(work)
	}
	return given[len(graph)-1], true
}

func isThere(node api.Node, inputs []api.Matrix) bool {
	if node.K >= len(inputs) {
		return false
	}
	input := inputs[node.K]
	return input.Rows == node.Rows && input.Cols == node.Cols && len(input.Numbers) == node.Rows*node.Cols
}
