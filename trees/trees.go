// Package trees: a store in which each different tree is kept once, and what is in it laid out as a graph.
package trees

import (
	"thrift/api"
	"thrift/ops"
)

// Store keeps trees: a tree is a node whose parts are places in the store, so that two trees are the same if their nodes are.
type Store struct {
	Nodes  []api.Node
	places map[api.Node]int
}

// New is a store with nothing in it.
func New() *Store {
	return &Store{places: map[api.Node]int{}}
}

// Put takes what a node's line says, and keeps the node with its shape, if it is not there; it tells its place.
func (s *Store) Put(said api.Node) int {
	kind, _ := ops.Known(said.Op)
	// The nodes of graphs, and what rules make of them, go together: there is always a shape.
	shape, _ := kind.Shape(kind.Look(s.Nodes, said))
	said.Rows, said.Cols = shape.Rows, shape.Cols
	place, ok := s.places[said]
	if !ok {
		place = len(s.Nodes)
		s.places[said] = place
		s.Nodes = append(s.Nodes, said)
	}
	return place
}

// LayOut makes a graph of a tree: each different tree in it once, in the order in which they end.
func (s *Store) LayOut(last int) []api.Node {
	l := layout{nodes: s.Nodes, ends: make([]int, len(s.Nodes))}
	l.end(last)
	return l.graph
}

type layout struct {
	nodes []api.Node
	graph []api.Node
	ends  []int // the length of the graph when a tree had ended; 0: it has not
}

// end tells the place in the graph of a tree.
func (l *layout) end(tree int) int {
	if l.ends[tree] == 0 {
		node := l.nodes[tree]
		kind, _ := ops.Known(node.Op)
		l.graph = append(l.graph, kind.Moved(node, l.end))
		l.ends[tree] = len(l.graph)
	}
	return l.ends[tree] - 1
}
