package classes

import (
	"slices"
	"testing"

	"thrift/api"
)

func roots(f Forest) []int {
	var list []int
	for place := range f {
		list = append(list, f.Root(place))
	}
	return list
}

func moved(term api.Term, place func(int) int) api.Term {
	term.A, term.B = place(term.A), place(term.B)
	return term
}

// TestForest joins in an order in which a root gets under another again and again.
func TestForest(t *testing.T) {
	f := NewForest(6)
	for _, c := range []struct {
		a, b int
		news bool
		want []int
	}{
		{4, 5, true, []int{0, 1, 2, 3, 4, 4}},
		{5, 4, false, []int{0, 1, 2, 3, 4, 4}},
		{3, 5, true, []int{0, 1, 2, 3, 3, 3}},
		{2, 2, false, []int{0, 1, 2, 3, 3, 3}},
		{0, 2, true, []int{0, 1, 0, 3, 3, 3}},
		{5, 2, true, []int{0, 1, 0, 0, 0, 0}},
		{3, 0, false, []int{0, 1, 0, 0, 0, 0}},
	} {
		if news := f.Join(c.a, c.b); news != c.news || !slices.Equal(roots(f), c.want) {
			t.Errorf("Join(%d, %d) = %v, the roots are %v, want %v, %v", c.a, c.b, news, roots(f), c.news, c.want)
		}
	}
}

// TestTableKeepsOnce: what becomes the same is one term of the table, and stays so when more is joined and put behind that.
func TestTableKeepsOnce(t *testing.T) {
	f := NewForest(7)
	table := NewTable(&f, moved)
	for place, term := range []api.Term{{Op: 1, A: None, B: None}, {Op: 2, A: None, B: None}, {Op: 3, A: 0, B: None}, {Op: 3, A: 1, B: None}, {Op: 3, A: None, B: 1}} {
		table.Put(term, place)
	}
	table.Close()
	if len(table.places) != 5 {
		t.Errorf("the table has %v", table.places)
	}
	f.Join(0, 1)
	table.Close()
	if want := []int{0, 0, 2, 2, 4, 5, 6}; len(table.places) != 4 || !slices.Equal(roots(f), want) {
		t.Errorf("the table has %v, the roots are %v, want %v", table.places, roots(f), want)
	}
	table.Put(api.Term{Op: 3, A: None, B: 0}, 5)
	table.Put(api.Term{Op: 4, A: 5, B: 3}, 6)
	f.Join(2, 6)
	table.Close()
	if want := []int{0, 0, 2, 2, 4, 4, 2}; len(table.places) != 5 || !slices.Equal(roots(f), want) {
		t.Errorf("the table has %v, the roots are %v, want %v", table.places, roots(f), want)
	}
}

func TestForestGrows(t *testing.T) {
	var f Forest
	for want := range 3 {
		if place := f.Grow(); place != want {
			t.Errorf("place %d is told as %d", want, place)
		}
	}
	f.Join(0, 2)
	f.Grow()
	if want := []int{0, 1, 0, 3}; !slices.Equal(roots(f), want) {
		t.Errorf("the roots are %v, want %v", roots(f), want)
	}
}

// TestTableFindsLeast: however the terms come to be the same, the least of their places is found.
func TestTableFindsLeast(t *testing.T) {
	for range 50 {
		f := NewForest(8)
		table := NewTable(&f, moved)
		for place := range 4 {
			table.Put(api.Term{Op: place, A: None, B: None}, place)
			table.Put(api.Term{Op: 9, A: place, B: None}, 7-place)
		}
		if place, ok := table.Find(api.Term{Op: 9, A: 1, B: None}); !ok || place != 6 {
			t.Fatalf("f(1) is found at %d, %v", place, ok)
		}
		f.Join(0, 1)
		f.Join(2, 3)
		f.Join(1, 3)
		table.Close()
		for part := range 4 {
			if place, ok := table.Find(api.Term{Op: 9, A: part, B: None}); !ok || place != 4 {
				t.Fatalf("f(%d) is found at %d, %v, want 4", part, place, ok)
			}
		}
		if _, ok := table.Find(api.Term{Op: 9, A: None, B: 0}); ok || table.Count() != 5 {
			t.Fatalf("the table has %v", table.places)
		}
	}
}

// TestTableCopy: what is put and joined in a copy is not seen in the first one, nor the other way round.
func TestTableCopy(t *testing.T) {
	f := NewForest(4)
	table := NewTable(&f, moved)
	for place := range 2 {
		table.Put(api.Term{Op: place, A: None, B: None}, place)
		table.Put(api.Term{Op: 9, A: place, B: None}, 2+place)
	}
	g := slices.Clone(f)
	other := table.Copy(&g)
	g.Join(0, 1)
	other.Close()
	table.Put(api.Term{Op: 8, A: None, B: None}, f.Grow())
	table.Close()
	if table.Count() != 5 || other.Count() != 3 || !slices.Equal(roots(f), []int{0, 1, 2, 3, 4}) || !slices.Equal(roots(g), []int{0, 0, 2, 2}) {
		t.Errorf("the tables have %v, %v, the roots are %v, %v", table.places, other.places, roots(f), roots(g))
	}
}
