package rules

import (
	"reflect"
	"slices"
	"testing"

	"thrift/api"
	"thrift/ops"
)

func TestNumbered(t *testing.T) {
	for number := 1; number <= api.MaxRules; number++ {
		rule, ok := Numbered(number)
		if !ok || rule.Left.Op == 0 {
			t.Errorf("rule %d is %v, %v", number, rule, ok)
		}
	}
	for _, number := range []int{0, -1, api.MaxRules + 1, -1 << 63, 1<<63 - 1} {
		if rule, ok := Numbered(number); ok || rule.Left.Op != 0 {
			t.Errorf("rule %d is %v, %v", number, rule, ok)
		}
	}
}

func TestAll(t *testing.T) {
	list := All()
	if len(list) != api.MaxRules {
		t.Fatalf("there are %d rules", len(list))
	}
	for i, rule := range list {
		if numbered, _ := Numbered(i + 1); !reflect.DeepEqual(rule, numbered) {
			t.Errorf("rule %d is %v, want %v", i+1, rule, numbered)
		}
	}
}

// ways lists what the names of trees stand for, in each way in which a place is a side.
func ways(side Side, held [][]api.Node, place int) [][3]int {
	var found [][3]int
	side.Fit(func(place int) []api.Node { return held[place] }, place, func(f Found) {
		found = append(found, [3]int{f[nameA].value, f[nameB].value, f[nameC].value})
	})
	return found
}

// TestFitAllWays: where several nodes are in one place, each way is handed on once.
func TestFitAllWays(t *testing.T) {
	held := [][]api.Node{
		{{Op: api.In}}, {{Op: api.In, K: 1}},
		{{Op: api.Add, A: 0, B: 1}, {Op: api.Add, A: 1, B: 0}, {Op: api.Sub, A: 0, B: 0}},
		{{Op: api.Add, A: 2, B: 0}, {Op: api.Add, A: 0, B: 2}, {Op: api.Add, A: 2, B: 2}},
	}
	for number, want := range map[int][][3]int{
		1: {{2, 0}, {0, 2}, {2, 2}}, 2: {{0, 1, 0}, {1, 0, 0}, {0, 1, 2}, {1, 0, 2}}, 3: {{0, 0, 1}, {0, 1, 0}, {2, 0, 1}, {2, 1, 0}}, 15: {{2}}, 6: nil,
	} {
		rule, _ := Numbered(number)
		if got := ways(rule.Left, held, 3); !slices.Equal(got, want) {
			t.Errorf("rule %d fits in the ways %v, want %v", number, got, want)
		}
	}
}

// TestFitSameNumbers: a number that stands twice is the same in each way.
func TestFitSameNumbers(t *testing.T) {
	held := [][]api.Node{
		{{Op: api.In}},
		{{Op: api.Scale, K: 2, A: 0}, {Op: api.Scale, K: 3, A: 0}},
		{{Op: api.Scale, K: 3, A: 1}, {Op: api.Scale, K: 4, A: 1}},
		{{Op: api.Add, A: 1, B: 2}},
	}
	rule, _ := Numbered(14)
	if got := ways(rule.Left, held, 3); !slices.Equal(got, [][3]int{{0, 1}}) {
		t.Errorf("rule 14 fits in the ways %v", got)
	}
}

func TestMakeNumbers(t *testing.T) {
	var found Found
	found, _ = found.with(nameA, 7)
	found, _ = found.with(nameJ, 5)
	found, _ = found.with(nameK, 1<<63-1)
	for number, want := range map[int][]api.Node{
		10: {{Op: api.Scale, K: 1<<63 - 5, A: 7}}, 11: nil, 12: {{Op: api.Fill, Rows: 2, Cols: 3}}, 15: {{Op: api.Scale, K: 2, A: 7}}, 16: {{Op: api.Scale, K: -1 << 63, A: 7}},
		20: {{Op: api.Fill, K: 1<<63 - 5, Rows: 2, Cols: 3}}, 21: {{Op: api.Fill, K: -1<<63 + 4, Rows: 2, Cols: 3}}, 33: {{Op: api.Turn, A: 7}, {Op: api.Scale, K: 1<<63 - 1, A: 100}},
	} {
		var put []api.Node
		rule, _ := Numbered(number)
		place := rule.Right.Make(found, ops.Shape{Rows: 2, Cols: 3}, func(node api.Node) int {
			put = append(put, node)
			return 99 + len(put)
		})
		if last := 99 + len(want); !slices.Equal(put, want) || len(want) > 0 && place != last || len(want) == 0 && place != 7 {
			t.Errorf("rule %d makes %v at %d, want %v", number, put, place, want)
		}
	}
}
