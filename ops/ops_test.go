package ops

import (
	"slices"
	"testing"

	"thrift/api"
)

func TestTable(t *testing.T) {
	words := []string{"in", "fill", "add", "sub", "mul", "scale", "times", "turn"}
	for i, word := range words {
		op, kind, ok := Named(word)
		if !ok || op != i+1 || kind.Word != word {
			t.Errorf("Named(%q) = %d, %q, %v", word, op, kind.Word, ok)
		}
	}
	for _, op := range []int{-1, 0, 9, -1 << 63, 1<<63 - 1} {
		if kind, ok := Known(op); ok || kind.Word != "" {
			t.Errorf("Known(%d) = %q, %v", op, kind.Word, ok)
		}
	}
	for _, word := range []string{"", "In", "add ", "neg"} {
		if op, _, ok := Named(word); ok || op != 0 {
			t.Errorf("Named(%q) = %d, %v", word, op, ok)
		}
	}
}

func TestSaid(t *testing.T) {
	full := api.Node{A: 1, B: 2, K: 3, Rows: 4, Cols: 5}
	for op, want := range map[int]api.Node{
		api.In: {K: 3, Rows: 4, Cols: 5}, api.Fill: {K: 3, Rows: 4, Cols: 5},
		api.Add: {A: 1, B: 2}, api.Sub: {A: 1, B: 2}, api.Mul: {A: 1, B: 2}, api.Times: {A: 1, B: 2},
		api.Scale: {A: 1, K: 3}, api.Turn: {A: 1},
	} {
		full.Op, want.Op = op, op
		kind, _ := Known(op)
		if got := kind.Said(full); got != want {
			t.Errorf("Said of %v = %v, want %v", full, got, want)
		}
		var parts []int
		if want.A != 0 {
			parts = append(parts, 1)
		}
		if want.B != 0 {
			parts = append(parts, 2)
		}
		if got := kind.Parts(full); !slices.Equal(got, parts) {
			t.Errorf("Parts of %v = %v, want %v", full, got, parts)
		}
	}
}

func TestMoved(t *testing.T) {
	full := api.Node{Op: api.Sub, A: 1, B: 2, Rows: 4, Cols: 3}
	var asked []int
	kind, _ := Known(full.Op)
	got := kind.Moved(full, func(place int) int {
		asked = append(asked, place)
		return place * 10
	})
	if want := (api.Node{Op: api.Sub, A: 10, B: 20, Rows: 4, Cols: 3}); got != want || !slices.Equal(asked, []int{1, 2}) {
		t.Errorf("Moved of %v = %v, asked for %v", full, got, asked)
	}
	fill := api.Node{Op: api.Fill, K: 3, Rows: 1, Cols: 1}
	kind, _ = Known(fill.Op)
	if got := kind.Moved(fill, func(int) int { return 9 }); got != fill {
		t.Errorf("Moved of %v = %v", fill, got)
	}
}

func TestGives(t *testing.T) {
	w := Work{
		Input: api.Matrix{Rows: 2, Cols: 2, Numbers: []int{9, 8, 7, 6}},
		A:     api.Matrix{Rows: 2, Cols: 2, Numbers: []int{1, 2, 3, 4}},
		B:     api.Matrix{Rows: 2, Cols: 2, Numbers: []int{10, 20, 30, 40}},
	}
	for op, want := range map[int][]int{
		api.In: {9, 8, 7, 6}, api.Fill: {5, 5, 5, 5}, api.Add: {11, 22, 33, 44}, api.Sub: {-9, -18, -27, -36}, api.Mul: {10, 40, 90, 160},
		api.Scale: {5, 10, 15, 20}, api.Times: {70, 100, 150, 220}, api.Turn: {1, 3, 2, 4},
	} {
		w.Node = api.Node{Op: op, K: 5, Rows: 2, Cols: 2}
		kind, _ := Known(op)
		if m := kind.Gives(w); m.Rows != 2 || m.Cols != 2 || !slices.Equal(m.Numbers, want) {
			t.Errorf("Op %d gives %v, want %v", op, m, want)
		}
	}
}
