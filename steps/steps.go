// Package steps: a rule applied at a node of a graph.
package steps

import (
	"thrift/api"
	"thrift/ops"
	"thrift/rules"
	"thrift/trees"
)

// Apply is the graph, laid out, with what a rule makes of a node's tree in the place of that node; false, if the tree is not the rule's left side.
func Apply(graph []api.Node, rule rules.Rule, at int) ([]api.Node, bool) {
	store := trees.New()
	places := make([]int, len(graph))
	for i, node := range graph {
		kind, _ := ops.Known(node.Op)
		places[i] = store.Put(kind.Moved(node, func(part int) int { return places[part] }))
		if i == at {
			made, ok := rewrite(store, rule, places[i])
			if !ok {
				return nil, false
			}
			// What stands behind it finds in its place what was made.
			places[i] = made
		}
	}
	return store.LayOut(places[len(graph)-1]), true
}

// rewrite puts down what a rule makes of a tree, and tells its place.
func rewrite(store *trees.Store, rule rules.Rule, tree int) (int, bool) {
	made, ok := 0, false
	only := func(place int) []api.Node { return store.Nodes[place : place+1] }
	rule.Left.Fit(only, tree, func(found rules.Found) {
		made, ok = rule.Right.Make(found, ops.ShapeOf(store.Nodes[tree]), store.Put), true
	})
	return made, ok
}
