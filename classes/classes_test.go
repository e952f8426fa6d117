package classes

import (
	"slices"
	"testing"

	"thrift/api"
)

func roots(f Forest) []int {
	var list []int
	for place := range f {
		list = append(list, f.Root(place))
	}
	return list
}

// TestForest joins in an order in which a root gets under another again and again.
func TestForest(t *testing.T) {
	f := NewForest(6)
	for _, c := range []struct {
		a, b int
		news bool
		want []int
	}{
		{4, 5, true, []int{0, 1, 2, 3, 4, 4}},
		{5, 4, false, []int{0, 1, 2, 3, 4, 4}},
		{3, 5, true, []int{0, 1, 2, 3, 3, 3}},
		{2, 2, false, []int{0, 1, 2, 3, 3, 3}},
		{0, 2, true, []int{0, 1, 0, 3, 3, 3}},
		{5, 2, true, []int{0, 1, 0, 0, 0, 0}},
		{3, 0, false, []int{0, 1, 0, 0, 0, 0}},
	} {
		if news := f.Join(c.a, c.b); news != c.news || !slices.Equal(roots(f), c.want) {
			t.Errorf("Join(%d, %d) = %v, the roots are %v, want %v, %v", c.a, c.b, news, roots(f), c.news, c.want)
		}
	}
}

// TestTableKeepsOnce: what becomes the same is one term of the table, and stays so when more is joined and put behind that.
func TestTableKeepsOnce(t *testing.T) {
	f := NewForest(7)
	table := NewTable(f)
	for place, term := range []api.Term{{Op: 1, A: None, B: None}, {Op: 2, A: None, B: None}, {Op: 3, A: 0, B: None}, {Op: 3, A: 1, B: None}, {Op: 3, A: None, B: 1}} {
		table.Put(term, place)
	}
	table.Close()
	if len(table.places) != 5 {
		t.Errorf("the table has %v", table.places)
	}
	f.Join(0, 1)
	table.Close()
	if want := []int{0, 0, 2, 2, 4, 5, 6}; len(table.places) != 4 || !slices.Equal(roots(f), want) {
		t.Errorf("the table has %v, the roots are %v, want %v", table.places, roots(f), want)
	}
	table.Put(api.Term{Op: 3, A: None, B: 0}, 5)
	table.Put(api.Term{Op: 4, A: 5, B: 3}, 6)
	f.Join(2, 6)
	table.Close()
	if want := []int{0, 0, 2, 2, 4, 4, 2}; len(table.places) != 5 || !slices.Equal(roots(f), want) {
		t.Errorf("the table has %v, the roots are %v, want %v", table.places, roots(f), want)
	}
}
