// Package ops: what is known of each Op, in one table.
package ops

import "thrift/api"

// Shape of a matrix.
type Shape struct {
	Rows, Cols int
}

// Use is a node with the shapes of the parts that it uses.
type Use struct {
	Node api.Node
	A, B Shape
}

// Kind is what is known of an Op.
type Kind struct {
	Word  string
	Says  []Field                  // what its line in a text says, in this order
	Shape func(Use) (Shape, bool)  // the shape it makes, if it may be used so
	Cost  func(Use) int            // what the node alone costs
	At    func(Work, int, int) int // the number it gives in a row and column
}

// Known tells what is known of an Op, and whether it is one.
func Known(op int) (Kind, bool) {
	// The table stands in here, since one that holds functions may not stand at package level.
	table := [...]Kind{
		api.In:    {"in", []Field{K, Rows, Cols}, Use.inputShape, Use.noCost, Work.inputAt},
		api.Fill:  {"fill", []Field{K, Rows, Cols}, Use.saidShape, Use.fillCost, Work.fillAt},
		api.Add:   {"add", []Field{A, B}, Use.commonShape, Use.placesCost, Work.sumAt},
		api.Sub:   {"sub", []Field{A, B}, Use.commonShape, Use.placesCost, Work.lessAt},
		api.Mul:   {"mul", []Field{A, B}, Use.commonShape, Use.placesCost, Work.productAt},
		api.Scale: {"scale", []Field{K, A}, Use.partShape, Use.placesCost, Work.scaledAt},
		api.Times: {"times", []Field{A, B}, Use.timesShape, Use.timesCost, Work.timesAt},
		api.Turn:  {"turn", []Field{A}, Use.turnedShape, Use.placesCost, Work.turnedAt},
	}
	if op < api.In || op >= len(table) {
		return Kind{}, false
	}
	return table[op], true
}

// Named finds the Op of a word, and what is known of it.
func Named(word string) (int, Kind, bool) {
	for op := api.In; op <= api.Turn; op++ {
		if kind, ok := Known(op); ok && kind.Word == word {
			return op, kind, true
		}
	}
	return 0, Kind{}, false
}

// ShapeOf is the shape that a node has.
func ShapeOf(node api.Node) Shape {
	return Shape{node.Rows, node.Cols}
}

// Look is a node with the shapes of its parts, whose places are in that list.
func (k Kind) Look(nodes []api.Node, node api.Node) Use {
	use := Use{Node: node}
	if k.Uses(A) {
		use.A = ShapeOf(nodes[node.A])
	}
	if k.Uses(B) {
		use.B = ShapeOf(nodes[node.B])
	}
	return use
}
