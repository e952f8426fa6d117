package books

import (
	"thrift/api"
	"thrift/ops"
	"thrift/trees"
)

// unknown is the cost of a class of which no whole tree is known yet: more than any.
const unknown = api.MaxCost + 1

// Cheapest is the graph, laid out, of a tree that costs least of those that are the same as the first graph's last one.
func (b *Book) Cheapest() []api.Node {
	return trees.LayOut(b.choose(), b.forest.Root(b.last))
}

// choose finds for each class the node of its cheapest tree. The first one found stays where others cost no less: so no tree comes to use itself, even where all costs are at the bound.
func (b *Book) choose() []api.Node {
	chosen := make([]api.Node, len(b.nodes))
	costs := make([]int, len(b.nodes))
	for class := range costs {
		costs[class] = unknown
	}
	entries := b.entries()
	for again := true; again; {
		again = false
		for _, e := range entries {
			if cost := b.cost(e.node, costs); cost < costs[e.class] {
				chosen[e.class], costs[e.class], again = e.node, cost, true
			}
		}
	}
	return chosen
}

// cost is what a node's tree costs, when the trees of its parts cost so much.
func (b *Book) cost(node api.Node, costs []int) int {
	kind, _ := ops.Known(node.Op)
	sum := kind.Cost(kind.Look(b.nodes, node))
	for _, part := range kind.Parts(node) {
		if costs[part] == unknown {
			return unknown
		}
		sum += costs[part]
	}
	return min(sum, api.MaxCost)
}
