// Package thrift: the same sums for less: see DOC.md.
package thrift

import (
	"thrift/api"
	"thrift/books"
	"thrift/graphs"
	"thrift/joins"
	"thrift/rules"
	"thrift/steps"
	"thrift/texts"
)

// Read reads a graph's text (P3).
func Read(text string) ([]api.Node, int, api.Errno) {
	return texts.Read(text)
}

// Print writes one (P4).
func Print(graph []api.Node) (string, api.Errno) {
	if !graphs.IsGraph(graph) {
		return "", api.ErrGraph
	}
	return texts.Print(graph), api.OK
}

// Cost tells what a graph costs (P4).
func Cost(graph []api.Node) (int, api.Errno) {
	if !graphs.IsGraph(graph) {
		return 0, api.ErrGraph
	}
	return graphs.Cost(graph), api.OK
}

// Run tells what a graph gives (P5).
func Run(graph []api.Node, inputs []api.Matrix) (api.Matrix, api.Errno) {
	if !graphs.IsGraph(graph) {
		return api.Matrix{}, api.ErrGraph
	}
	given, ok := graphs.Run(graph, inputs)
	if !ok {
		return api.Matrix{}, api.ErrInput
	}
	return given, api.OK
}

// Step applies a rule at a node (P6).
func Step(graph []api.Node, rule int, at int) ([]api.Node, api.Errno) {
	if !graphs.IsGraph(graph) {
		return nil, api.ErrGraph
	}
	sides, ok := rules.Numbered(rule)
	if !ok || at < 0 || at >= len(graph) {
		return nil, api.ErrRule
	}
	after, ok := steps.Apply(graph, sides, at)
	if !ok {
		return nil, api.ErrRule
	}
	if len(after) > api.MaxNodes {
		return nil, api.ErrLong
	}
	return after, api.OK
}

// Join tells which terms are the same (P7).
func Join(terms []api.Term, pairs []api.Pair) ([]int, api.Errno) {
	if !joins.MayBe(terms, pairs) {
		return nil, api.ErrNumber
	}
	return joins.Join(terms, pairs), api.OK
}

// Optimise finds a graph that costs least (P8).
func Optimise(graph []api.Node, rounds int, room int) ([]api.Node, api.Note, api.Errno) {
	if !graphs.IsGraph(graph) {
		return nil, api.Note{}, api.ErrGraph
	}
	if rounds < 0 || rounds > api.MaxRounds || room < 1 || room > api.MaxRoom {
		return nil, api.Note{}, api.ErrNumber
	}
	after, note := books.Optimise(graph, rounds, room)
	return after, note, api.OK
}
