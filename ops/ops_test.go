package ops

import (
	"slices"
	"testing"

	"thrift/api"
)

func TestTable(t *testing.T) {
	words := []string{"in", "fill", "add", "sub", "mul", "scale", "times", "turn"}
	for i, word := range words {
		op, kind, ok := Named(word)
		if !ok || op != i+1 || kind.Word != word {
			t.Errorf("Named(%q) = %d, %q, %v", word, op, kind.Word, ok)
		}
	}
	for _, op := range []int{-1, 0, 9, -1 << 63, 1<<63 - 1} {
		if kind, ok := Known(op); ok || kind.Word != "" {
			t.Errorf("Known(%d) = %q, %v", op, kind.Word, ok)
		}
	}
	for _, word := range []string{"", "In", "add ", "neg"} {
		if op, _, ok := Named(word); ok || op != 0 {
			t.Errorf("Named(%q) = %d, %v", word, op, ok)
		}
	}
}

func TestSaid(t *testing.T) {
	full := api.Node{A: 1, B: 2, K: 3, Rows: 4, Cols: 5}
	for op, want := range map[int]api.Node{
		api.In: {K: 3, Rows: 4, Cols: 5}, api.Fill: {K: 3, Rows: 4, Cols: 5},
		api.Add: {A: 1, B: 2}, api.Sub: {A: 1, B: 2}, api.Mul: {A: 1, B: 2}, api.Times: {A: 1, B: 2},
		api.Scale: {A: 1, K: 3}, api.Turn: {A: 1},
	} {
		full.Op, want.Op = op, op
		kind, _ := Known(op)
		if got := kind.Said(full); got != want {
			t.Errorf("Said of %v = %v, want %v", full, got, want)
		}
		var parts []int
		if want.A != 0 {
			parts = append(parts, 1)
		}
		if want.B != 0 {
			parts = append(parts, 2)
		}
		if got := kind.Parts(full); !slices.Equal(got, parts) {
			t.Errorf("Parts of %v = %v, want %v", full, got, parts)
		}
	}
}
