package thrift_test

import (
	"fmt"
	"math"
	"math/big"
	"math/rand/v2"
	"regexp"
	"strings"

	"thrift/api"
)

type nodes = []api.Node

const (
	least    = math.MinInt
	greatest = math.MaxInt
)

func in(k, rows, cols int) api.Node {
	return api.Node{Op: api.In, K: k, Rows: rows, Cols: cols}
}

func fill(k, rows, cols int) api.Node {
	return api.Node{Op: api.Fill, K: k, Rows: rows, Cols: cols}
}

func scale(k, a, rows, cols int) api.Node {
	return api.Node{Op: api.Scale, K: k, A: a, Rows: rows, Cols: cols}
}

func turn(a, rows, cols int) api.Node {
	return api.Node{Op: api.Turn, A: a, Rows: rows, Cols: cols}
}

func two(op, a, b, rows, cols int) api.Node {
	return api.Node{Op: op, A: a, B: b, Rows: rows, Cols: cols}
}

// fixed is a source of numbers that is the same at each run.
func fixed() *rand.Rand {
	return rand.New(rand.NewPCG(20, 26))
}

func pick[T any](r *rand.Rand, from ...T) T {
	return from[r.IntN(len(from))]
}

// anyGraph lays out a graph of so many nodes, with each Op in it sooner or later.
func anyGraph(r *rand.Rand, count int) nodes {
	var shapes [api.MaxInputs][2]int
	for k := range shapes {
		shapes[k] = [2]int{1 + r.IntN(2), 1 + r.IntN(2)}
	}
	var g nodes
	for len(g) < count {
		k := r.IntN(api.MaxInputs)
		node := pick(r, in(k, shapes[k][0], shapes[k][1]), fill(pick(r, 0, 1, -1, least, greatest), 1+r.IntN(4), 1+r.IntN(4)))
		if len(g) > 0 && r.IntN(4) > 0 {
			node = anyUse(r, g)
		}
		if wellShaped(append(g[:len(g):len(g)], node)) {
			g = append(g, node)
		}
	}
	return g
}

// anyUse makes a node of two that are there; its parts may not go together.
func anyUse(r *rand.Rand, g nodes) api.Node {
	a, b := r.IntN(len(g)), r.IntN(len(g))
	x, y := g[a], g[b]
	return pick(r,
		two(api.Add, a, b, x.Rows, x.Cols), two(api.Sub, a, b, x.Rows, x.Cols), two(api.Mul, a, b, x.Rows, x.Cols),
		scale(r.IntN(9)-4, a, x.Rows, x.Cols), two(api.Times, a, b, x.Rows, y.Cols), turn(a, x.Cols, x.Rows))
}

// wellShaped asks, spelt out Op by Op, whether the last node may stand behind the others, which are taken as right.
func wellShaped(g nodes) bool {
	n, ahead := g[len(g)-1], g[:len(g)-1]
	there := func(p int) bool { return p >= 0 && p < len(ahead) }
	side := func(s int) bool { return s == 1 || s == 2 || s == 3 || s == 4 }
	is := func(rows, cols int) bool { return n.Rows == rows && n.Cols == cols }
	switch n.Op {
	case api.In:
		for _, x := range ahead {
			if x.Op == api.In && x.K == n.K && !is(x.Rows, x.Cols) {
				return false
			}
		}
		return side(n.Rows) && side(n.Cols) && n.K >= 0 && n.K <= 7 && n.A == 0 && n.B == 0
	case api.Fill:
		return side(n.Rows) && side(n.Cols) && n.A == 0 && n.B == 0
	case api.Add, api.Sub, api.Mul:
		return there(n.A) && there(n.B) && n.K == 0 && is(ahead[n.A].Rows, ahead[n.A].Cols) && is(ahead[n.B].Rows, ahead[n.B].Cols)
	case api.Scale:
		return there(n.A) && n.B == 0 && is(ahead[n.A].Rows, ahead[n.A].Cols)
	case api.Times:
		return there(n.A) && there(n.B) && n.K == 0 && ahead[n.A].Cols == ahead[n.B].Rows && is(ahead[n.A].Rows, ahead[n.B].Cols)
	case api.Turn:
		return there(n.A) && n.B == 0 && n.K == 0 && is(ahead[n.A].Cols, ahead[n.A].Rows)
	}
	return false
}

func isGraph(g nodes) bool {
	for i := range min(len(g), 101) {
		if !wellShaped(g[:i+1]) {
			return false
		}
	}
	return len(g) >= 1 && len(g) <= 100
}

var lineForm = regexp.MustCompile(strings.ReplaceAll(`\A(in N N N|fill N N N|(add|sub|mul|times|scale) N N|turn N)\z`, "N", "(0|-?[1-9][0-9]*)"))

// isLine asks by forms of text whether a line is one, and by great numbers whether it fits.
func isLine(line string) bool {
	if !lineForm.MatchString(line) {
		return false
	}
	for _, word := range strings.Fields(line)[1:] {
		if n, ok := new(big.Int).SetString(word, 10); !ok || !n.IsInt64() {
			return false
		}
	}
	return true
}

// saidNode is the node that a line says, its shape taken from its parts, if they are there.
func saidNode(line string, ahead nodes) api.Node {
	word, rest, _ := strings.Cut(line, " ")
	var n [3]int
	fmt.Sscan(rest, &n[0], &n[1], &n[2])
	shape := func(p int) api.Node {
		if p < 0 || p >= len(ahead) {
			return api.Node{}
		}
		return ahead[p]
	}
	switch word {
	case "in":
		return in(n[0], n[1], n[2])
	case "fill":
		return fill(n[0], n[1], n[2])
	case "scale":
		return scale(n[0], n[1], shape(n[1]).Rows, shape(n[1]).Cols)
	case "turn":
		return turn(n[0], shape(n[0]).Cols, shape(n[0]).Rows)
	case "times":
		return two(api.Times, n[0], n[1], shape(n[0]).Rows, shape(n[1]).Cols)
	}
	op := map[string]int{"add": api.Add, "sub": api.Sub, "mul": api.Mul}[word]
	return two(op, n[0], n[1], shape(n[0]).Rows, shape(n[0]).Cols)
}

// readByForms is a second reader, for short texts.
func readByForms(text string) (nodes, int, api.Errno) {
	lines := strings.Split(strings.TrimSuffix(text, "\n"), "\n")
	for i, line := range lines {
		if !isLine(line) || i == 100 {
			return nil, i, api.ErrSyntax
		}
	}
	var g nodes
	for i, line := range lines {
		g = append(g, saidNode(line, g))
		if !wellShaped(g) {
			return nil, i, api.ErrShape
		}
	}
	return g, 0, api.OK
}

// treeCost goes through the whole tree in great numbers, without a bound.
func treeCost(g nodes, at int) *big.Int {
	known := map[int]*big.Int{}
	var cost func(at int) *big.Int
	cost = func(at int) *big.Int {
		if c := known[at]; c != nil {
			return c
		}
		n := g[at]
		own, parts := n.Rows*n.Cols, []int{n.A, n.B}
		switch n.Op {
		case api.In:
			own, parts = 0, nil
		case api.Fill:
			own, parts = 1, nil
		case api.Scale, api.Turn:
			parts = parts[:1]
		case api.Times:
			own *= 2 * g[n.A].Cols
		}
		sum := big.NewInt(int64(own))
		for _, p := range parts {
			sum.Add(sum, cost(p))
		}
		known[at] = sum
		return sum
	}
	return cost(at)
}
