package classes

import "thrift/api"

// None stands in a term for a part that it has not.
const None = -1

// Table keeps each different term once: two terms whose parts are the same have one key.
type Table struct {
	forest Forest
	places map[api.Term]int // a key is a term with roots as its parts
}

// NewTable keeps no term yet; the forest is of the places where terms will stand.
func NewTable(forest Forest) *Table {
	return &Table{forest: forest, places: map[api.Term]int{}}
}

// Put keeps a term that stands in a place. If it is kept already, both places are the same.
func (t *Table) Put(term api.Term, place int) {
	t.keep(t.places, term, place)
}

// Close makes all the same that follows from what is the same.
func (t *Table) Close() {
	for t.follow() {
	}
}

// follow keeps all terms anew, by the roots that their parts have by now; false, if nothing more is the same by that.
func (t *Table) follow() bool {
	places := make(map[api.Term]int, len(t.places))
	joined := false
	// In whatever order they come, the last time round leaves the same places joined, under the same roots.
	for term, place := range t.places {
		if t.keep(places, term, place) {
			joined = true
		}
	}
	t.places = places
	return joined
}

// keep tells whether two places are the same by that which were not.
func (t *Table) keep(places map[api.Term]int, term api.Term, place int) bool {
	key := t.key(term)
	first, ok := places[key]
	if !ok {
		places[key] = place
		return false
	}
	return t.forest.Join(first, place)
}

func (t *Table) key(term api.Term) api.Term {
	term.A, term.B = t.part(term.A), t.part(term.B)
	return term
}

func (t *Table) part(place int) int {
	if place == None {
		return None
	}
	return t.forest.Root(place)
}
