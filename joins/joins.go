// Package joins: which of some terms are the same, by pairs and by what follows from them.
package joins

import (
	"thrift/api"
	"thrift/classes"
)

// maxPairs has no name in package api; the document gives it the number of the terms.
const maxPairs = api.MaxTerms

// MayBe tells whether there may be such terms and pairs.
func MayBe(terms []api.Term, pairs []api.Pair) bool {
	if len(terms) > api.MaxTerms || len(pairs) > maxPairs {
		return false
	}
	for place, term := range terms {
		if !isPart(term.A, place) || !isPart(term.B, place) {
			return false
		}
	}
	for _, pair := range pairs {
		if !isPlace(pair.A, len(terms)) || !isPlace(pair.B, len(terms)) {
			return false
		}
	}
	return true
}

// isPart tells whether a term may have this part, when so many terms are ahead of it.
func isPart(part, ahead int) bool {
	return part == classes.None || isPlace(part, ahead)
}

func isPlace(place, places int) bool {
	return place >= 0 && place < places
}

func moved(term api.Term, place func(int) int) api.Term {
	term.A, term.B = place(term.A), place(term.B)
	return term
}

// Join tells for each term the least place of those that are the same.
func Join(terms []api.Term, pairs []api.Pair) []int {
	forest := classes.NewForest(len(terms))
	for _, pair := range pairs {
		forest.Join(pair.A, pair.B)
	}
	table := classes.NewTable(&forest, moved)
	for place, term := range terms {
		table.Put(term, place)
	}
	table.Close()
	least := make([]int, len(terms))
	for place := range least {
		least[place] = forest.Root(place)
	}
	return least
}
