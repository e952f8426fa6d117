package thrift_test

import (
	"math/big"
	"slices"
	"testing"

	"thrift/api"
	"thrift/thrift"
)

func wantPrint(t *testing.T, g nodes, want string) {
	t.Helper()
	if s, e := thrift.Print(g); s != want || e != api.OK {
		t.Errorf("P4: Print(%v) = %q, %d, want %q", g, s, e, want)
	}
}

func wantCost(t *testing.T, g nodes, want int) {
	t.Helper()
	if n, e := thrift.Cost(g); n != want || e != api.OK {
		t.Errorf("P4: Cost(%v) = %d, %d, want %d", g, n, e, want)
	}
}

func wantNoGraph(t *testing.T, g nodes) {
	t.Helper()
	if s, e := thrift.Print(g); s != "" || e != api.ErrGraph {
		t.Errorf("P4: Print(%.300v) = %q, %d, want ErrGraph", g, s, e)
	}
	if n, e := thrift.Cost(g); n != 0 || e != api.ErrGraph {
		t.Errorf("P4: Cost(%.300v) = %d, %d, want ErrGraph", g, n, e)
	}
}

func TestPrint(t *testing.T) {
	wantPrint(t, nodes{in(0, 2, 3), turn(0, 3, 2), two(api.Times, 0, 1, 2, 2)}, "in 0 2 3\nturn 0\ntimes 0 1\n")
	wantPrint(t, nodes{in(7, 1, 4)}, "in 7 1 4\n")
	wantPrint(t, nodes{fill(least, 4, 1), scale(greatest, 0, 4, 1)}, "fill -9223372036854775808 4 1\nscale 9223372036854775807 0\n")
	wantPrint(t, nodes{fill(0, 2, 2), two(api.Add, 0, 0, 2, 2), two(api.Sub, 0, 1, 2, 2), two(api.Mul, 2, 1, 2, 2)}, "fill 0 2 2\nadd 0 0\nsub 0 1\nmul 2 1\n")
	long := slices.Repeat(nodes{scale(least, 0, 1, 1)}, 100)
	long[0] = in(0, 1, 1)
	text, e := thrift.Print(long)
	if g, _, _ := thrift.Read(text); e != api.OK || !slices.Equal(g, long) {
		t.Errorf("P4: a hundred nodes printed (%d) and read: %v", e, g)
	}
}

func TestCost(t *testing.T) {
	square := in(0, 2, 2)
	wantCost(t, nodes{in(0, 4, 4)}, 0)
	wantCost(t, nodes{fill(5, 4, 4)}, 1)
	for _, op := range []int{api.Add, api.Sub, api.Mul} {
		wantCost(t, nodes{in(0, 3, 4), two(op, 0, 0, 3, 4)}, 12)
	}
	wantCost(t, nodes{in(0, 3, 4), scale(0, 0, 3, 4)}, 12)
	wantCost(t, nodes{in(0, 3, 4), turn(0, 4, 3)}, 12)
	wantCost(t, nodes{in(0, 2, 3), in(1, 3, 4), two(api.Times, 0, 1, 2, 4)}, 48)
	wantCost(t, nodes{in(0, 4, 1), in(1, 1, 3), two(api.Times, 0, 1, 4, 3)}, 24)
	wantCost(t, nodes{in(0, 1, 4), in(1, 4, 1), two(api.Times, 0, 1, 1, 1)}, 8)
	wantCost(t, nodes{in(0, 2, 3), turn(0, 3, 2), two(api.Times, 0, 1, 2, 2)}, 30)

	wantCost(t, nodes{square, scale(3, 0, 2, 2), two(api.Add, 1, 1, 2, 2)}, 12)
	wantCost(t, nodes{square, scale(3, 0, 2, 2), two(api.Add, 1, 1, 2, 2), two(api.Mul, 2, 1, 2, 2)}, 20)
	wantCost(t, nodes{fill(1, 4, 4), two(api.Times, 0, 0, 4, 4), square}, 0)
	wantCost(t, nodes{fill(1, 4, 4), two(api.Times, 0, 0, 4, 4), square, turn(2, 2, 2)}, 4)
	wantCost(t, nodes{square, in(1, 2, 2), in(2, 2, 2), two(api.Times, 0, 1, 2, 2), two(api.Times, 2, 1, 2, 2), two(api.Add, 3, 4, 2, 2)}, 36)
}

// costing lays out a graph of that cost: a sum of a tree with itself doubles it and adds 1, a multiple adds 1.
func costing(cost int) nodes {
	if cost == 1 {
		return nodes{fill(1, 1, 1)}
	}
	if cost%2 == 1 {
		g := costing((cost - 1) / 2)
		return append(g, two(api.Add, len(g)-1, len(g)-1, 1, 1))
	}
	g := costing(cost - 1)
	return append(g, scale(2, len(g)-1, 1, 1))
}

func TestCostBound(t *testing.T) {
	for _, cost := range []int{1, 2, 3, 1000, api.MaxCost - 1, api.MaxCost} {
		wantCost(t, costing(cost), cost)
	}
	for _, cost := range []int{api.MaxCost + 1, api.MaxCost + 2, 2 * api.MaxCost, 1 << 45} {
		wantCost(t, costing(cost), api.MaxCost)
	}
	g := nodes{in(0, 4, 4)}
	for len(g) < 100 {
		g = append(g, two(api.Times, len(g)-1, len(g)-1, 4, 4))
	}
	wantCost(t, g, api.MaxCost)
	g[99] = turn(1, 4, 4)
	wantCost(t, g, 128+16)
}

func TestNoGraphByLength(t *testing.T) {
	wantNoGraph(t, nil)
	wantNoGraph(t, nodes{})
	wantNoGraph(t, slices.Repeat(nodes{in(0, 1, 1)}, 101))
	wantNoGraph(t, slices.Repeat(nodes{in(0, 1, 1)}, 1000000))
	wantCost(t, slices.Repeat(nodes{in(0, 1, 1)}, 100), 0)
}

func TestNoGraphByOp(t *testing.T) {
	for _, op := range []int{0, 9, 10, -1, least, greatest} {
		wantNoGraph(t, nodes{{Op: op}})
		wantNoGraph(t, nodes{{Op: op, Rows: 1, Cols: 1}})
		wantNoGraph(t, nodes{in(0, 1, 1), {Op: op, Rows: 1, Cols: 1}, in(0, 1, 1)})
	}
}

func TestNoGraphByShape(t *testing.T) {
	for _, side := range []int{0, 5, -1, least, greatest} {
		for _, node := range []api.Node{in(0, side, 1), in(0, 1, side), in(0, side, side), fill(0, side, 1), fill(0, 1, side), fill(0, side, side)} {
			wantNoGraph(t, nodes{node})
			wantNoGraph(t, nodes{fill(0, 1, 1), node})
		}
	}
	pair := nodes{in(0, 2, 3), in(1, 3, 2)}
	for _, node := range []api.Node{
		two(api.Add, 0, 1, 2, 3), two(api.Sub, 0, 1, 2, 3), two(api.Mul, 1, 0, 3, 2), two(api.Times, 0, 0, 2, 3), two(api.Times, 1, 1, 3, 2),
		two(api.Add, 0, 0, 3, 2), two(api.Sub, 0, 0, 2, 2), two(api.Mul, 0, 0, 0, 0), two(api.Times, 0, 1, 2, 3), two(api.Times, 0, 1, 3, 3), two(api.Times, 0, 1, 0, 0),
		turn(0, 2, 3), turn(0, 0, 0), turn(0, 3, 3), scale(1, 0, 3, 2), scale(1, 0, 0, 0), scale(1, 0, 2, 2),
	} {
		wantNoGraph(t, append(pair[:2:2], node))
	}
}

func TestNoGraphByInput(t *testing.T) {
	for _, k := range []int{-1, 8, least, greatest} {
		wantNoGraph(t, nodes{in(k, 1, 1)})
	}
	wantNoGraph(t, nodes{in(0, 1, 2), in(0, 2, 1)})
	wantNoGraph(t, nodes{in(7, 1, 2), in(6, 2, 1), in(7, 1, 2), fill(0, 1, 1), in(7, 1, 1)})
	wantCost(t, nodes{in(0, 1, 2), in(1, 2, 1), in(0, 1, 2), fill(0, 2, 1), in(1, 2, 1)}, 0)
}

func TestNoGraphByPlace(t *testing.T) {
	for _, place := range []int{-1, 1, 2, 100, least, greatest} {
		for _, node := range []api.Node{
			two(api.Add, place, 0, 1, 1), two(api.Add, 0, place, 1, 1), two(api.Sub, place, 0, 1, 1), two(api.Sub, 0, place, 1, 1), two(api.Mul, place, 0, 1, 1), two(api.Mul, 0, place, 1, 1),
			two(api.Times, place, 0, 1, 1), two(api.Times, 0, place, 1, 1), scale(1, place, 1, 1), turn(place, 1, 1),
		} {
			wantNoGraph(t, nodes{in(0, 1, 1), node, in(0, 1, 1)})
		}
	}
	wantNoGraph(t, nodes{turn(0, 1, 1)})
}

func TestNoGraphByUnused(t *testing.T) {
	for _, node := range []api.Node{in(0, 1, 1), fill(0, 1, 1), turn(0, 1, 1), scale(1, 0, 1, 1)} {
		for _, number := range []int{1, -1, least, greatest} {
			spoilt := node
			spoilt.B = number
			wantNoGraph(t, nodes{in(0, 1, 1), in(0, 1, 1), spoilt})
		}
	}
	for _, node := range []api.Node{in(0, 1, 1), fill(0, 1, 1)} {
		node.A = 1
		wantNoGraph(t, nodes{in(0, 1, 1), in(0, 1, 1), node})
	}
	for _, op := range []int{api.Add, api.Sub, api.Mul, api.Times, api.Turn} {
		wantNoGraph(t, nodes{in(0, 1, 1), {Op: op, K: 1, Rows: 1, Cols: 1}})
		wantCost(t, nodes{in(0, 1, 1), {Op: op, Rows: 1, Cols: 1}}, map[bool]int{true: 2, false: 1}[op == api.Times])
	}
}

// TestGraphsAgainstForms holds Print and Cost against a second check and a second count, at graphs that are right or spoilt in a number or two.
func TestGraphsAgainstForms(t *testing.T) {
	r := fixed()
	for range 20000 {
		g := anyGraph(r, 1+r.IntN(10))
		for range r.IntN(3) {
			n := &g[r.IntN(len(g))]
			*pick(r, &n.Op, &n.A, &n.B, &n.K, &n.Rows, &n.Cols) = pick(r, -1, 0, 1, 2, 3, 4, 5, 8, least, greatest)
		}
		if !isGraph(g) {
			wantNoGraph(t, g)
			continue
		}
		wantCost(t, g, int(treeCost(g, len(g)-1).Int64()))
		text, e := thrift.Print(g)
		if back, _, e2 := readByForms(text); e != api.OK || e2 != api.OK || !slices.Equal(back, g) {
			t.Fatalf("P4: Print(%v) = %q, %d, which is read as %v", g, text, e, back)
		}
	}
}

func TestGreatGraphsAgainstForms(t *testing.T) {
	r := fixed()
	for range 300 {
		g := anyGraph(r, 60+r.IntN(41))
		want := treeCost(g, len(g)-1)
		if bound := big.NewInt(api.MaxCost); want.Cmp(bound) > 0 {
			want = bound
		}
		wantCost(t, g, int(want.Int64()))
	}
}
