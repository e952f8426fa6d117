// Package graphs: which nodes make a graph, what it costs and what it gives.
package graphs

import (
	"thrift/api"
	"thrift/ops"
)

// Builder takes a graph's nodes one by one.
type Builder struct {
	Nodes  []api.Node
	inputs [api.MaxInputs]ops.Shape // the shape of noughts: no such input so far
}

// Add takes what a node's line says and works out its shape; it answers false, if the node may not stand behind those ahead of it.
func (b *Builder) Add(said api.Node) bool {
	kind, ok := ops.Known(said.Op)
	if !ok || !b.hasParts(kind, said) {
		return false
	}
	shape, ok := kind.Shape(kind.Look(b.Nodes, said))
	if !ok || said.Op == api.In && !b.keepInput(said.K, shape) {
		return false
	}
	said.Rows, said.Cols = shape.Rows, shape.Cols
	b.Nodes = append(b.Nodes, said)
	return true
}

func (b *Builder) hasParts(kind ops.Kind, node api.Node) bool {
	for _, part := range kind.Parts(node) {
		if part < 0 || part >= len(b.Nodes) {
			return false
		}
	}
	return true
}

func (b *Builder) keepInput(k int, shape ops.Shape) bool {
	none := ops.Shape{}
	if b.inputs[k] == none {
		b.inputs[k] = shape
	}
	return b.inputs[k] == shape
}

// IsGraph tells whether a list of nodes is a graph.
func IsGraph(nodes []api.Node) bool {
	if len(nodes) < 1 || len(nodes) > api.MaxNodes {
		return false
	}
	var b Builder
	for i, node := range nodes {
		kind, ok := ops.Known(node.Op)
		// A node must be just what its line would make of it: so nothing stands in it that its Op does not use.
		if !ok || !b.Add(kind.Said(node)) || b.Nodes[i] != node {
			return false
		}
	}
	return true
}

// Cost is what a graph costs.
func Cost(graph []api.Node) int {
	trees := make([]int, len(graph))
	for i, node := range graph {
		kind, _ := ops.Known(node.Op)
		sum := kind.Cost(kind.Look(graph, node))
		for _, part := range kind.Parts(node) {
			sum += trees[part]
		}
		// Held at the bound at each node, since the trees' costs may double from node to node.
		trees[i] = min(sum, api.MaxCost)
	}
	return trees[len(graph)-1]
}
