// Package classes: which places are the same, and what follows from that for the terms that stand there.
package classes

// Forest of parents: places that are the same are under one root, which is the least of them.
type Forest []int

// NewForest is one of so many places, none of which is the same as another.
func NewForest(places int) Forest {
	forest := make(Forest, places)
	for place := range forest {
		forest[place] = place
	}
	return forest
}

// Grow adds a place that is not the same as another, and tells it.
func (f *Forest) Grow() int {
	place := len(*f)
	*f = append(*f, place)
	return place
}

// Root tells the least place that is the same as this one.
func (f Forest) Root(place int) int {
	for f[place] != place {
		// The way up is halved, so that long ways are gone once.
		f[place] = f[f[place]]
		place = f[place]
	}
	return place
}

// Join makes two places the same; false, if they were so already.
func (f Forest) Join(a, b int) bool {
	a, b = f.Root(a), f.Root(b)
	f[max(a, b)] = min(a, b)
	return a != b
}
