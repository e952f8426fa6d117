// Package rules: the rules as values, the ways in which their left sides fit, and what their right sides make of these.
package rules

import (
	"thrift/api"
	"thrift/ops"
)

// Name is one of the names in a rule: a, b, c stand for trees, j, k for numbers.
type Name int

const (
	nameA Name = iota
	nameB
	nameC
	nameJ
	nameK
	names // how many there are
)

// Number in a side is Just + J·j + K·k + Both·j·k: so whatever a rule says of numbers is a value.
type Number struct {
	Just, J, K, Both int
}

// Side of a rule: an Op with its number (nought, if it uses none) and parts; or, where the Op is 0, a tree's name.
type Side struct {
	Op     int
	Tree   Name
	Number Number
	Parts  []Side
}

// Rule makes of its left side its right side.
type Rule struct {
	Left, Right Side
}

// Found is what the names stand for: the places of trees, or numbers.
type Found [names]struct {
	known bool
	value int
}

// with is what was found and one name more, if that does not stand for something else already.
func (f Found) with(name Name, value int) (Found, bool) {
	if f[name].known {
		return f, f[name].value == value
	}
	f[name].known, f[name].value = true, value
	return f, true
}

// withNumber is the same for a number of a left side: there it is a name alone, or is written out.
func (f Found) withNumber(n Number, value int) (Found, bool) {
	switch n {
	case Number{J: 1}:
		return f.with(nameJ, value)
	case Number{K: 1}:
		return f.with(nameK, value)
	}
	return f, n.Just == value
}

func (f Found) number(n Number) int {
	j, k := f[nameJ].value, f[nameK].value
	return n.Just + n.J*j + n.K*k + n.Both*j*k
}

// partFields tells where a node has the parts of a side.
var partFields = [...]ops.Field{ops.A, ops.B}

// Holds tells the nodes that are the tree in a place; their A and B are such places, too.
type Holds func(place int) []api.Node

// Fit hands on, one by one, the ways in which the tree in a place is this side.
func (s Side) Fit(holds Holds, place int, way func(Found)) {
	s.fit(holds, place, Found{}, way)
}

func (s Side) fit(holds Holds, place int, found Found, way func(Found)) {
	if s.Op == 0 {
		if more, ok := found.with(s.Tree, place); ok {
			way(more)
		}
		return
	}
	for _, node := range holds(place) {
		if node.Op != s.Op {
			continue
		}
		if more, ok := found.withNumber(s.Number, node.K); ok {
			s.fitParts(holds, node, 0, more, way)
		}
	}
}

// fitParts goes on with the parts from one on, each in all the ways that those ahead of it leave.
func (s Side) fitParts(holds Holds, node api.Node, from int, found Found, way func(Found)) {
	if from == len(s.Parts) {
		way(found)
		return
	}
	s.Parts[from].fit(holds, partFields[from].Of(node), found, func(more Found) {
		s.fitParts(holds, node, from+1, more, way)
	})
}

// Make has the trees of this side put down, parts first, and tells the place of the whole. A Fill in it has that shape.
func (s Side) Make(found Found, shape ops.Shape, put func(api.Node) int) int {
	if s.Op == 0 {
		return found[s.Tree].value
	}
	said := api.Node{Op: s.Op, K: found.number(s.Number)}
	for i, part := range s.Parts {
		said = partFields[i].Put(said, part.Make(found, shape, put))
	}
	if s.Op == api.Fill {
		said.Rows, said.Cols = shape.Rows, shape.Cols
	}
	return put(said)
}
