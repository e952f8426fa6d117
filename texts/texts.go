// Package texts: graphs as texts.
package texts

import (
	"strconv"
	"strings"

	"thrift/api"
	"thrift/graphs"
	"thrift/ops"
)

// Read makes a graph of a text, or tells the line and the kind of its fault.
func Read(text string) ([]api.Node, int, api.Errno) {
	if len(text) > api.MaxText {
		return nil, 0, api.ErrLong
	}
	// All lines are read ahead of the first shape: a fault of syntax goes ahead of one of shape in an earlier line.
	said, line, ok := readLines(text)
	if !ok {
		return nil, line, api.ErrSyntax
	}
	graph, line, ok := build(said)
	if !ok {
		return nil, line, api.ErrShape
	}
	return graph, 0, api.OK
}

// readLines finds what each line says, or the first line that is none. (A text without lines comes here as one empty line, which is none: so it is told as line 0, which is their number, too.)
func readLines(text string) ([]api.Node, int, bool) {
	var said []api.Node
	for i, line := range strings.Split(strings.TrimSuffix(text, "\n"), "\n") {
		node, ok := readLine(line)
		if !ok || i == api.MaxNodes {
			return nil, i, false
		}
		said = append(said, node)
	}
	return said, 0, true
}

func readLine(line string) (api.Node, bool) {
	words := strings.Split(line, " ")
	op, kind, ok := ops.Named(words[0])
	if !ok || len(words) != 1+len(kind.Says) {
		return api.Node{}, false
	}
	node := api.Node{Op: op}
	for i, field := range kind.Says {
		number, ok := readNumber(words[1+i])
		if !ok {
			return api.Node{}, false
		}
		node = field.Put(node, number)
	}
	return node, true
}

// readNumber takes a number in the one way in which it may be written: as it would be printed.
func readNumber(word string) (int, bool) {
	number, err := strconv.Atoi(word)
	if err != nil || strconv.Itoa(number) != word {
		return 0, false
	}
	return number, true
}

func build(said []api.Node) ([]api.Node, int, bool) {
	var b graphs.Builder
	for i, line := range said {
		if !b.Add(line) {
			return nil, i, false
		}
	}
	return b.Nodes, 0, true
}

// Print makes the text of a graph.
func Print(graph []api.Node) string {
	var text strings.Builder
	for _, node := range graph {
		kind, _ := ops.Known(node.Op)
		text.WriteString(kind.Word)
		for _, field := range kind.Says {
			text.WriteString(" ")
			text.WriteString(strconv.Itoa(field.Of(node)))
		}
		text.WriteString("\n")
	}
	return text.String()
}
