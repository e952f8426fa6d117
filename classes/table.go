package classes

import "maps"

// None stands in a term for a part that it has not.
const None = -1

// Table keeps each different term once: two terms whose parts are the same have one key.
type Table[T comparable] struct {
	forest *Forest
	moved  func(term T, place func(int) int) T // the term with its parts in other places
	places map[T]int                           // a key is a term with roots as its parts; its place is the least in which such a term stands
}

// NewTable keeps no term yet; the forest is of the places where terms will stand.
func NewTable[T comparable](forest *Forest, moved func(term T, place func(int) int) T) *Table[T] {
	return &Table[T]{forest: forest, moved: moved, places: map[T]int{}}
}

// Copy keeps the same terms by a forest that is a copy, too.
func (t *Table[T]) Copy(forest *Forest) *Table[T] {
	return &Table[T]{forest: forest, moved: t.moved, places: maps.Clone(t.places)}
}

// Count is how many terms are kept.
func (t *Table[T]) Count() int {
	return len(t.places)
}

// Key is a term with roots as its parts.
func (t *Table[T]) Key(term T) T {
	return t.moved(term, t.part)
}

// Find tells the least place in which a term stands whose parts are the same, and whether there is one.
func (t *Table[T]) Find(term T) (int, bool) {
	place, ok := t.places[t.Key(term)]
	return place, ok
}

// Put keeps a term that stands in a place. If it is kept already, both places are the same.
func (t *Table[T]) Put(term T, place int) {
	t.keep(t.places, term, place)
}

// Close makes all the same that follows from what is the same.
func (t *Table[T]) Close() {
	for t.follow() {
	}
}

// follow keeps all terms anew, by the roots that their parts have by now; false, if nothing more is the same by that.
func (t *Table[T]) follow() bool {
	places := make(map[T]int, len(t.places))
	joined := false
	// In whatever order they come, the last time round leaves the same places joined, under the same roots, and each key with the same place.
	for term, place := range t.places {
		if t.keep(places, term, place) {
			joined = true
		}
	}
	t.places = places
	return joined
}

// keep tells whether two places are the same by that which were not.
func (t *Table[T]) keep(places map[T]int, term T, place int) bool {
	key := t.Key(term)
	first, ok := places[key]
	if !ok {
		places[key] = place
		return false
	}
	places[key] = min(first, place)
	return t.forest.Join(first, place)
}

func (t *Table[T]) part(place int) int {
	if place == None {
		return None
	}
	return t.forest.Root(place)
}
