package thrift_test

import (
	"math/big"
	"math/rand/v2"
	"slices"
	"testing"

	"thrift/api"
	"thrift/thrift"
)

func matrix(rows, cols int, numbers ...int) api.Matrix {
	return api.Matrix{Rows: rows, Cols: cols, Numbers: numbers}
}

func sameMatrix(m, n api.Matrix) bool {
	return m.Rows == n.Rows && m.Cols == n.Cols && slices.Equal(m.Numbers, n.Numbers)
}

func wantRun(t *testing.T, g nodes, want api.Matrix, inputs ...api.Matrix) {
	t.Helper()
	if m, e := thrift.Run(g, inputs); !sameMatrix(m, want) || e != api.OK {
		t.Errorf("P5: Run(%v, %v) = %v, %d, want %v", g, inputs, m, e, want)
	}
}

func wantNoRun(t *testing.T, g nodes, want api.Errno, inputs ...api.Matrix) {
	t.Helper()
	if m, e := thrift.Run(g, inputs); !sameMatrix(m, api.Matrix{}) || e != want {
		t.Errorf("P5: Run(%v, %v) = %v, %d, want %d", g, inputs, m, e, want)
	}
}

func TestRunOps(t *testing.T) {
	x, y := matrix(2, 3, 1, 2, 3, 4, 5, 6), matrix(2, 3, 7, -8, 9, 0, 11, -12)
	pair := func(op int) nodes { return nodes{in(0, 2, 3), in(1, 2, 3), two(op, 0, 1, 2, 3)} }
	wantRun(t, nodes{in(0, 2, 3)}, x, x)
	wantRun(t, nodes{in(1, 2, 3)}, y, x, y)
	wantRun(t, nodes{fill(-5, 3, 2)}, matrix(3, 2, -5, -5, -5, -5, -5, -5))
	wantRun(t, pair(api.Add), matrix(2, 3, 8, -6, 12, 4, 16, -6), x, y)
	wantRun(t, pair(api.Sub), matrix(2, 3, -6, 10, -6, 4, -6, 18), x, y)
	wantRun(t, pair(api.Mul), matrix(2, 3, 7, -16, 27, 0, 55, -72), x, y)
	wantRun(t, nodes{in(0, 2, 3), scale(-2, 0, 2, 3)}, matrix(2, 3, -2, -4, -6, -8, -10, -12), x)
	wantRun(t, nodes{in(0, 2, 3), scale(0, 0, 2, 3)}, matrix(2, 3, 0, 0, 0, 0, 0, 0), x)
	wantRun(t, nodes{in(0, 2, 3), turn(0, 3, 2)}, matrix(3, 2, 1, 4, 2, 5, 3, 6), x)
	wantRun(t, nodes{in(0, 2, 3), turn(0, 3, 2), two(api.Times, 0, 1, 2, 2)}, matrix(2, 2, 14, 32, 32, 77), x)
	wantRun(t, nodes{in(0, 2, 3), turn(0, 3, 2), two(api.Times, 1, 0, 3, 3)}, matrix(3, 3, 17, 22, 27, 22, 29, 36, 27, 36, 45), x)
	wantRun(t, nodes{in(0, 1, 2), in(1, 2, 4), two(api.Times, 0, 1, 1, 4)}, matrix(1, 4, 21, 24, 27, 30), matrix(1, 2, 1, 2), matrix(2, 4, 1, 2, 3, 4, 10, 11, 12, 13))
	wantRun(t, nodes{in(0, 3, 1), in(1, 1, 2), two(api.Times, 0, 1, 3, 2)}, matrix(3, 2, 4, 5, 8, 10, 12, 15), matrix(3, 1, 1, 2, 3), matrix(1, 2, 4, 5))
	wantRun(t, nodes{in(0, 1, 1), two(api.Sub, 0, 0, 1, 1), in(0, 1, 1)}, matrix(1, 1, 3), matrix(1, 1, 3))
}

func TestRunGoesRound(t *testing.T) {
	x, y := matrix(1, 2, greatest, least), matrix(1, 2, 1, -1)
	pair := func(op int) nodes { return nodes{in(0, 1, 2), in(1, 1, 2), two(op, 0, 1, 1, 2)} }
	wantRun(t, pair(api.Add), matrix(1, 2, least, greatest), x, y)
	wantRun(t, pair(api.Sub), matrix(1, 2, greatest-1, least+1), x, y)
	wantRun(t, pair(api.Sub), matrix(1, 2, -greatest+1, greatest), y, x)
	wantRun(t, pair(api.Mul), matrix(1, 2, greatest, least), x, y)
	wantRun(t, pair(api.Mul), matrix(1, 2, 1, 0), x, x)
	wantRun(t, nodes{in(0, 1, 2), scale(2, 0, 1, 2)}, matrix(1, 2, -2, 0), x)
	wantRun(t, nodes{in(0, 1, 2), scale(-1, 0, 1, 2)}, matrix(1, 2, -greatest, least), x)
	wantRun(t, nodes{in(0, 1, 2), turn(0, 2, 1), two(api.Times, 0, 1, 1, 1)}, matrix(1, 1, 1), x)
	wantRun(t, nodes{in(0, 1, 2), in(1, 2, 1), two(api.Times, 0, 1, 1, 1)}, matrix(1, 1, -2), matrix(1, 2, 1<<32, greatest), matrix(2, 1, 1<<32, 2))
	g := nodes{fill(3, 1, 1)}
	for len(g) < 100 {
		g = append(g, two(api.Mul, len(g)-1, len(g)-1, 1, 1))
	}
	wantRun(t, g, matrix(1, 1, 1))
}

func TestRunInputs(t *testing.T) {
	one := matrix(1, 1, 9)
	wantNoRun(t, nodes{in(0, 1, 1)}, api.ErrInput)
	wantNoRun(t, nodes{in(1, 1, 1)}, api.ErrInput, one)
	wantNoRun(t, nodes{in(7, 1, 1)}, api.ErrInput, one, one, one, one, one, one, one)
	wantRun(t, nodes{in(7, 1, 1)}, one, one, one, one, one, one, one, one, one)
	for _, m := range []api.Matrix{
		{}, matrix(3, 2, 1, 2, 3, 4, 5, 6), matrix(2, 2, 1, 2, 3, 4, 5, 6), matrix(3, 3, 1, 2, 3, 4, 5, 6), matrix(1, 6, 1, 2, 3, 4, 5, 6), matrix(0, 0, 1, 2, 3, 4, 5, 6), matrix(-2, -3, 1, 2, 3, 4, 5, 6),
		matrix(2, 3), matrix(2, 3, 1, 2, 3, 4, 5), matrix(2, 3, 1, 2, 3, 4, 5, 6, 7), matrix(2, 3, make([]int, 100000)...), matrix(least, greatest, 1, 2, 3, 4, 5, 6), matrix(2, least),
	} {
		wantNoRun(t, nodes{in(0, 2, 3)}, api.ErrInput, m)
		wantNoRun(t, nodes{in(1, 1, 1), in(0, 2, 3), fill(1, 2, 3), two(api.Add, 1, 2, 2, 3)}, api.ErrInput, m, one)
		// A node In that the last node does not use needs its input too.
		wantNoRun(t, nodes{in(0, 2, 3), in(1, 1, 1)}, api.ErrInput, m, one)
	}
	wantNoRun(t, nodes{fill(1, 1, 1), in(3, 1, 1), turn(0, 1, 1)}, api.ErrInput, one, one, one)
}

func TestRunOtherInputs(t *testing.T) {
	one := matrix(1, 1, 9)
	for _, m := range []api.Matrix{{}, matrix(-1, 5), matrix(2, 2, 1), matrix(least, greatest, 1, 2, 3), matrix(9, 9, make([]int, 81)...)} {
		wantRun(t, nodes{in(1, 1, 1)}, one, m, one)
		wantRun(t, nodes{in(1, 1, 1)}, one, m, one, m, m, m, m, m, m, m, m)
		wantRun(t, nodes{fill(2, 1, 1)}, matrix(1, 1, 2), m)
	}
	wantRun(t, nodes{in(0, 1, 1)}, one, append([]api.Matrix{one}, make([]api.Matrix, 100000)...)...)
}

func TestRunNoGraph(t *testing.T) {
	one := matrix(1, 1, 9)
	for _, g := range []nodes{
		nil, {}, {turn(0, 1, 1)}, {in(8, 1, 1)}, {in(-1, 1, 1)}, {in(0, 0, 1)}, {in(0, 1, 5)}, {{Op: 9, Rows: 1, Cols: 1}}, {in(0, 1, 1), turn(0, 1, 2)},
		{in(0, 1, 1), in(0, 1, 2)}, {in(0, 1, 1), two(api.Add, 0, 1, 1, 1)}, {in(0, 1, 1), {Op: api.Turn, K: 1, Rows: 1, Cols: 1}}, slices.Repeat(nodes{in(0, 1, 1)}, 101),
	} {
		wantNoRun(t, g, api.ErrGraph, one)
		wantNoRun(t, g, api.ErrGraph)
		wantNoRun(t, g, api.ErrGraph, matrix(1, 1))
	}
	// ErrGraph goes ahead of ErrInput, wherever in the list the faults are.
	wantNoRun(t, nodes{in(0, 1, 1), turn(1, 1, 1)}, api.ErrGraph)
	wantRun(t, slices.Repeat(nodes{in(0, 1, 1)}, 100), one, one)
}

// anyInputs makes an input for each node In.
func anyInputs(r *rand.Rand, g nodes) []api.Matrix {
	inputs := make([]api.Matrix, api.MaxInputs)
	for _, n := range g {
		if n.Op == api.In {
			inputs[n.K] = matrix(n.Rows, n.Cols)
			for range n.Rows * n.Cols {
				inputs[n.K].Numbers = append(inputs[n.K].Numbers, pick(r, int(r.Uint64()), r.IntN(9)-4, least, greatest))
			}
		}
	}
	return inputs
}

// runGreat works the whole tree out in great numbers, and takes them round at the end alone.
func runGreat(g nodes, inputs []api.Matrix) api.Matrix {
	var at func(node, row, col int) *big.Int
	at = func(node, row, col int) *big.Int {
		n, x := g[node], new(big.Int)
		switch n.Op {
		case api.In:
			x.SetInt64(int64(inputs[n.K].Numbers[row*n.Cols+col]))
		case api.Fill:
			x.SetInt64(int64(n.K))
		case api.Add:
			x.Add(at(n.A, row, col), at(n.B, row, col))
		case api.Sub:
			x.Sub(at(n.A, row, col), at(n.B, row, col))
		case api.Mul:
			x.Mul(at(n.A, row, col), at(n.B, row, col))
		case api.Scale:
			x.Mul(big.NewInt(int64(n.K)), at(n.A, row, col))
		case api.Turn:
			x = at(n.A, col, row)
		case api.Times:
			for i := range g[n.A].Cols {
				x.Add(x, new(big.Int).Mul(at(n.A, row, i), at(n.B, i, col)))
			}
		}
		return x
	}
	last := g[len(g)-1]
	m := matrix(last.Rows, last.Cols)
	all := new(big.Int).Lsh(big.NewInt(1), 64)
	for i := range last.Rows * last.Cols {
		m.Numbers = append(m.Numbers, int(new(big.Int).Mod(at(len(g)-1, i/last.Cols, i%last.Cols), all).Uint64()))
	}
	return m
}

func TestRunAgainstGreatNumbers(t *testing.T) {
	r := fixed()
	for range 3000 {
		g := anyGraph(r, 1+r.IntN(9))
		inputs := anyInputs(r, g)
		wantRun(t, g, runGreat(g, inputs), inputs...)
	}
}
