// Package trees: a store in which each different tree is kept once, and what is in it laid out as a graph.
package trees

import (
	"thrift/api"
	"thrift/ops"
)

// Store keeps trees: a tree is a node whose parts are places in the store, so that two trees are the same if their nodes are.
type Store struct {
	Nodes  []api.Node
	places map[api.Node]int
}

// New is a store with nothing in it.
func New() *Store {
	return &Store{places: map[api.Node]int{}}
}

// Put takes what a node's line says, and keeps the node with its shape, if it is not there; it tells its place.
func (s *Store) Put(said api.Node) int {
	node := Shaped(s.Nodes, said)
	place, ok := s.places[node]
	if !ok {
		place = len(s.Nodes)
		s.places[node] = place
		s.Nodes = append(s.Nodes, node)
	}
	return place
}

// LayOut makes a graph of a tree: each different tree in it once, in the order in which they end.
func (s *Store) LayOut(last int) []api.Node {
	return LayOut(s.Nodes, last)
}

// Shaped is what a node's line says with the shape that it has by its parts, whose places are in that list.
func Shaped(nodes []api.Node, said api.Node) api.Node {
	kind, _ := ops.Known(said.Op)
	// The nodes of graphs, and what rules make of them, go together: there is always a shape.
	shape, _ := kind.Shape(kind.Look(nodes, said))
	said.Rows, said.Cols = shape.Rows, shape.Cols
	return said
}

// LayOut makes a graph of the tree in a place of a list: each place that it uses once, in the order in which their trees end.
func LayOut(nodes []api.Node, last int) []api.Node {
	l := layout{nodes: nodes, ends: make([]int, len(nodes))}
	l.end(last)
	return l.graph
}

type layout struct {
	nodes []api.Node
	graph []api.Node
	ends  []int // by place: the length of the graph when its tree had ended; 0: it has not
}

// end tells the place in the graph of a tree.
func (l *layout) end(tree int) int {
	if l.ends[tree] == 0 {
		node := l.nodes[tree]
		kind, _ := ops.Known(node.Op)
		l.graph = append(l.graph, kind.Moved(node, l.end))
		l.ends[tree] = len(l.graph)
	}
	return l.ends[tree] - 1
}
