package books

import (
	"thrift/api"
	"thrift/graphs"
)

// Optimise is the cheapest graph that so many rounds make of a graph, as far as there is room, and a note of what was found.
func Optimise(graph []api.Node, rounds, room int) ([]api.Node, api.Note) {
	note := api.Note{Before: graphs.Cost(graph)}
	book := Open(graph)
	note.Full = book.Count() > room
	for !note.Full && note.Rounds < rounds {
		next := book.Round()
		if next.Count() > room {
			note.Full = true
			break
		}
		book = next
		note.Rounds++
	}
	after := book.Cheapest()
	note.After, note.Count = graphs.Cost(after), book.Count()
	return after, note
}
