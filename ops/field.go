package ops

import (
	"slices"

	"thrift/api"
)

// Field is one of a node's numbers.
type Field int

const (
	K Field = iota
	A
	B
	Rows
	Cols
)

// Of is that number of a node.
func (f Field) Of(node api.Node) int {
	switch f {
	case K:
		return node.K
	case A:
		return node.A
	case B:
		return node.B
	case Rows:
		return node.Rows
	default:
		return node.Cols
	}
}

// Put is the node with that number in it.
func (f Field) Put(node api.Node, number int) api.Node {
	switch f {
	case K:
		node.K = number
	case A:
		node.A = number
	case B:
		node.B = number
	case Rows:
		node.Rows = number
	default:
		node.Cols = number
	}
	return node
}

// Uses tells whether nodes of this Op say that number.
func (k Kind) Uses(field Field) bool {
	return slices.Contains(k.Says, field)
}

// Said is the node with nothing in it but what its line in a text says.
func (k Kind) Said(node api.Node) api.Node {
	said := api.Node{Op: node.Op}
	for _, field := range k.Says {
		said = field.Put(said, field.Of(node))
	}
	return said
}

// Parts are the places of the nodes that a node uses: A's first.
func (k Kind) Parts(node api.Node) []int {
	var parts []int
	for _, field := range k.Says {
		if field == A || field == B {
			parts = append(parts, field.Of(node))
		}
	}
	return parts
}

// Moved is the node with its parts in other places: A's is asked for first.
func (k Kind) Moved(node api.Node, place func(int) int) api.Node {
	for _, field := range k.Says {
		if field == A || field == B {
			node = field.Put(node, place(field.Of(node)))
		}
	}
	return node
}
