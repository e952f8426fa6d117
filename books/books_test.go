package books

import (
	"slices"
	"testing"

	"thrift/api"
)

func in(k int) api.Node { return api.Node{Op: api.In, K: k, Rows: 2, Cols: 2} }

func two(op, a, b int) api.Node { return api.Node{Op: op, A: a, B: b, Rows: 2, Cols: 2} }

func scale(k, a int) api.Node { return api.Node{Op: api.Scale, K: k, A: a, Rows: 2, Cols: 2} }

// TestOpen: what the last tree does not use is not taken down, and each different tree once.
func TestOpen(t *testing.T) {
	b := Open([]api.Node{in(3), in(1), in(0), in(1), scale(5, 1), scale(5, 3), scale(6, 0), two(api.Sub, 5, 4)})
	want := []api.Node{in(1), scale(5, 0), two(api.Sub, 1, 1)}
	if b.Count() != 3 || b.last != 2 || !slices.Equal(b.nodes, want) || !slices.Equal(b.Cheapest(), want) {
		t.Errorf("taken down are %v, the last at %d", b.nodes, b.last)
	}
}

// TestRoundLeavesTheBook: behind a round that is not done, the book is as it was ahead of it.
func TestRoundLeavesTheBook(t *testing.T) {
	b := Open([]api.Node{in(0), scale(1, 0), two(api.Sub, 0, 1)})
	nodes, entries := slices.Clone(b.nodes), b.entries()
	next := b.Round()
	next.Round()
	if b.Count() != 3 || !slices.Equal(b.nodes, nodes) || !slices.Equal(b.entries(), entries) {
		t.Errorf("a round has made of %v: %v", entries, b.entries())
	}
	if again := b.Round(); again.Count() != next.Count() || !slices.Equal(again.entries(), next.entries()) {
		t.Errorf("a round makes %v, and then %v", next.entries(), again.entries())
	}
}

// TestRoundClasses: 1 times x is x, so that it stands there with itself as a part, and each node is held once.
func TestRoundClasses(t *testing.T) {
	b := Open([]api.Node{in(0), scale(1, 0), two(api.Mul, 0, 1), two(api.Mul, 1, 0), two(api.Add, 2, 3)}).Round()
	held := b.held()
	if want := []api.Node{in(0), scale(1, 0)}; !slices.Equal(held[0], want) {
		t.Errorf("x is %v, want %v", held[0], want)
	}
	product := b.forest.Root(2)
	if want := []api.Node{two(api.Mul, 0, 0)}; !slices.Equal(held[product], want) {
		t.Errorf("the product is %v, want %v", held[product], want)
	}
	count := 0
	for _, nodes := range held {
		count += len(nodes)
	}
	if count != b.Count() {
		t.Errorf("%d nodes are held, %d counted", count, b.Count())
	}
}

// TestCheapestStays: where nothing costs less, the first graph is the answer, laid out.
func TestCheapestStays(t *testing.T) {
	g := []api.Node{in(0), in(1), two(api.Add, 0, 1), in(2), two(api.Add, 2, 3), two(api.Mul, 4, 0)}
	b := Open(g)
	for range 3 {
		if got := b.Cheapest(); !slices.Equal(got, g) {
			t.Errorf("the cheapest is %v, want %v", got, g)
		}
		b = b.Round()
	}
}
