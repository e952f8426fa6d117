// Package books: all that rules make of a graph, taken down in a book, each thing once, and the cheapest of it.
package books

import (
	"slices"

	"thrift/api"
	"thrift/classes"
	"thrift/ops"
	"thrift/rules"
	"thrift/trees"
)

// Book in which trees are taken down: a tree is a node whose parts are places in the book, and any tree that is the same may stand for a part.
type Book struct {
	nodes  []api.Node // by place, as they were taken down
	forest classes.Forest
	table  *classes.Table[api.Node]
	last   int // the place of the first graph's last tree
}

// entry is a node as the table keeps it: its class and its parts are roots.
type entry struct {
	class int
	node  api.Node
}

func moved(node api.Node, place func(int) int) api.Node {
	kind, _ := ops.Known(node.Op)
	return kind.Moved(node, place)
}

// Open is a book with the trees that a graph's last tree uses, in the order of the graph laid out.
func Open(graph []api.Node) *Book {
	b := &Book{}
	b.table = classes.NewTable(&b.forest, moved)
	var places []int
	for _, node := range trees.LayOut(graph, len(graph)-1) {
		b.last = b.put(moved(node, func(part int) int { return places[part] }))
		places = append(places, b.last)
	}
	return b
}

// Count is how many there are, where nodes whose parts are the same count once.
func (b *Book) Count() int {
	return b.table.Count()
}

// put takes down what a node's line says, if it is not there, and tells its place.
func (b *Book) put(said api.Node) int {
	node := trees.Shaped(b.nodes, said)
	place, ok := b.table.Find(node)
	if !ok {
		place = b.forest.Grow()
		b.nodes = append(b.nodes, node)
		b.table.Put(node, place)
	}
	return place
}

// entries lists what the table keeps, in the order in which it was taken down.
func (b *Book) entries() []entry {
	var list []entry
	for place, node := range b.nodes {
		if first, _ := b.table.Find(node); first == place {
			list = append(list, entry{b.forest.Root(place), b.table.Key(node)})
		}
	}
	return list
}

// held lists the nodes of each class, in the place of its root.
func (b *Book) held() [][]api.Node {
	held := make([][]api.Node, len(b.nodes))
	for _, e := range b.entries() {
		held[e.class] = append(held[e.class], e.node)
	}
	return held
}

// Round is the book behind one round more; this one stays as it is, since the round may be too much.
func (b *Book) Round() *Book {
	next := b.copy()
	// The ways are looked for in what was held at the beginning, whatever is taken down meanwhile.
	held := b.held()
	holds := func(place int) []api.Node { return held[place] }
	for _, rule := range rules.All() {
		for class := range held {
			rule.Left.Fit(holds, class, func(found rules.Found) {
				made := rule.Right.Make(found, ops.ShapeOf(b.nodes[class]), next.put)
				next.forest.Join(class, made)
			})
		}
	}
	next.table.Close()
	return next
}

func (b *Book) copy() *Book {
	c := &Book{nodes: slices.Clone(b.nodes), forest: slices.Clone(b.forest), last: b.last}
	c.table = b.table.Copy(&c.forest)
	return c
}
