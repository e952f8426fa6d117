package trees

import (
	"slices"
	"testing"

	"thrift/api"
)

func TestPutOnce(t *testing.T) {
	s := New()
	x := s.Put(api.Node{Op: api.In, Rows: 2, Cols: 3})
	turned := s.Put(api.Node{Op: api.Turn, A: x})
	if s.Nodes[turned] != (api.Node{Op: api.Turn, A: x, Rows: 3, Cols: 2}) {
		t.Errorf("the turned node is %v", s.Nodes[turned])
	}
	for range 3 {
		if y := s.Put(api.Node{Op: api.In, Rows: 2, Cols: 3}); y != x {
			t.Errorf("the same tree is at %d and %d", x, y)
		}
		if y := s.Put(api.Node{Op: api.Turn, A: x}); y != turned {
			t.Errorf("the same tree is at %d and %d", turned, y)
		}
	}
	for _, other := range []api.Node{{Op: api.In, Rows: 3, Cols: 2}, {Op: api.In, K: 1, Rows: 2, Cols: 3}, {Op: api.Fill, Rows: 2, Cols: 3}, {Op: api.Turn, A: turned}} {
		if before := len(s.Nodes); s.Put(other) != before {
			t.Errorf("%v is taken for another tree", other)
		}
	}
}

func TestLayOut(t *testing.T) {
	s := New()
	x, y := s.Put(api.Node{Op: api.In, Rows: 1, Cols: 1}), s.Put(api.Node{Op: api.In, K: 1, Rows: 1, Cols: 1})
	sum := s.Put(api.Node{Op: api.Add, A: y, B: x})
	whole := s.Put(api.Node{Op: api.Mul, A: sum, B: y})
	s.Put(api.Node{Op: api.Turn, A: whole})
	want := []api.Node{
		{Op: api.In, K: 1, Rows: 1, Cols: 1}, {Op: api.In, Rows: 1, Cols: 1},
		{Op: api.Add, A: 0, B: 1, Rows: 1, Cols: 1}, {Op: api.Mul, A: 2, B: 0, Rows: 1, Cols: 1},
	}
	for range 2 {
		if got := s.LayOut(whole); !slices.Equal(got, want) {
			t.Errorf("LayOut = %v, want %v", got, want)
		}
	}
}

// TestLayOutList: of a list in any order, in which a place may stand behind those that use it.
func TestLayOutList(t *testing.T) {
	list := []api.Node{
		{Op: api.Sub, A: 3, B: 2, Rows: 1, Cols: 1}, {Op: api.Fill, K: 9, Rows: 1, Cols: 1},
		{Op: api.In, K: 1, Rows: 1, Cols: 1}, {Op: api.Turn, A: 4, Rows: 1, Cols: 1}, {Op: api.Mul, A: 2, B: 2, Rows: 1, Cols: 1},
	}
	want := []api.Node{
		{Op: api.In, K: 1, Rows: 1, Cols: 1}, {Op: api.Mul, Rows: 1, Cols: 1}, {Op: api.Turn, A: 1, Rows: 1, Cols: 1}, {Op: api.Sub, A: 2, B: 0, Rows: 1, Cols: 1},
	}
	if got := LayOut(list, 0); !slices.Equal(got, want) {
		t.Errorf("LayOut = %v, want %v", got, want)
	}
}
