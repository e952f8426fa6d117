package thrift_test

import (
	"math/rand/v2"
	"slices"
	"strconv"
	"strings"
	"testing"

	"thrift/api"
	"thrift/thrift"
)

// graphOf reads a graph whose lines have ; between them.
func graphOf(t *testing.T, text string) nodes {
	t.Helper()
	g, line, e := thrift.Read(strings.ReplaceAll(text, ";", "\n"))
	if e != api.OK {
		t.Fatalf("the test's own text %q is wrong in line %d: %d", text, line, e)
	}
	return g
}

// wantStep asks for the graph behind a step; "" asks for ErrRule.
func wantStep(t *testing.T, before string, rule, at int, after string) {
	t.Helper()
	var want nodes
	wantErrno := api.ErrRule
	if after != "" {
		want, wantErrno = graphOf(t, after), api.OK
	}
	g, e := thrift.Step(graphOf(t, before), rule, at)
	if !slices.Equal(g, want) || e != wantErrno {
		text, _ := thrift.Print(g)
		t.Errorf("P6: Step(%q, %d, %d) = %q, %d, want %q, %d", before, rule, at, strings.ReplaceAll(text, "\n", ";"), e, after, wantErrno)
	}
}

// wantStepErrno asks for an error, and nothing beside it.
func wantStepErrno(t *testing.T, g nodes, rule, at int, want api.Errno) {
	t.Helper()
	if x, e := thrift.Step(g, rule, at); x != nil || e != want {
		t.Errorf("P6: Step(%.300v, %d, %d) = %.300v, %d, want %d", g, rule, at, x, e, want)
	}
}

type step struct {
	before string
	after  string
}

// TestStepEachRule tries each rule at the last node, where it applies and where it does not.
func TestStepEachRule(t *testing.T) {
	const x, xy, xyz = "in 0 2 3;", "in 0 2 3;in 1 2 3;", "in 0 2 3;in 1 2 3;in 2 2 3;"
	const p, pq, pqr = "in 4 1 2;", "in 4 1 2;in 5 2 3;", "in 4 1 2;in 5 2 3;in 6 3 4;"
	for rule, steps := range [...][]step{
		1:  {{xy + "add 0 1", "in 1 2 3;in 0 2 3;add 0 1"}, {x + "add 0 0", x + "add 0 0"}, {xy + "sub 0 1", ""}, {xy + "mul 0 1", ""}, {x, ""}},
		2:  {{xyz + "add 0 1;add 3 2", xyz + "add 1 2;add 0 3"}, {xyz + "add 0 1;add 2 3", ""}, {xyz + "sub 0 1;add 3 2", ""}, {xyz + "add 0 1;sub 3 2", ""}, {xy + "add 0 1", ""}},
		3:  {{xyz + "add 1 2;add 0 3", xy + "add 0 1;in 2 2 3;add 2 3"}, {xyz + "add 1 2;add 3 0", ""}, {xyz + "mul 1 2;add 0 3", ""}},
		4:  {{xy + "sub 0 1", xy + "scale -1 1;add 0 2"}, {x + "sub 0 0", x + "scale -1 0;add 0 1"}, {xy + "add 0 1", ""}},
		5:  {{xy + "scale -1 1;add 0 2", xy + "sub 0 1"}, {xy + "scale 1 1;add 0 2", ""}, {xy + "scale 0 1;add 0 2", ""}, {xy + "scale -1 0;add 2 1", ""}, {xy + "scale -1 1;sub 0 2", ""}, {xy + "fill -1 2 3;add 0 2", ""}},
		6:  {{xy + "mul 0 1", "in 1 2 3;in 0 2 3;mul 0 1"}, {xy + "add 0 1", ""}, {pq + "times 0 1", ""}},
		7:  {{xyz + "mul 0 1;mul 3 2", xyz + "mul 1 2;mul 0 3"}, {xyz + "mul 0 1;mul 2 3", ""}, {xyz + "add 0 1;mul 3 2", ""}},
		8:  {{xyz + "add 1 2;mul 0 3", xy + "mul 0 1;in 2 2 3;mul 0 3;add 2 4"}, {xyz + "add 1 2;mul 3 0", ""}, {xyz + "sub 1 2;mul 0 3", ""}},
		9:  {{xyz + "mul 0 1;mul 0 2;add 3 4", xyz + "add 1 2;mul 0 3"}, {xyz + "mul 1 0;mul 2 0;add 3 4", ""}, {xyz + "mul 0 1;mul 2 0;add 3 4", ""}, {xyz + "mul 0 1;mul 0 2;sub 3 4", ""}, {x + "mul 0 0;add 1 1", x + "add 0 0;mul 0 1"}},
		10: {{x + "scale 3 0;scale -5 1", x + "scale -15 0"}, {x + "scale 4294967296 0;scale 4294967296 1", x + "scale 0 0"}, {x + "scale 9223372036854775807 0;scale 2 1", x + "scale -2 0"}, {x + "scale 3 0", ""}, {x + "scale 3 0;turn 1", ""}},
		11: {{x + "scale 1 0", "in 0 2 3"}, {x + "scale 2 0", ""}, {x + "scale -1 0", ""}, {x + "scale 0 0", ""}, {x + "fill 1 2 3", ""}},
		12: {{x + "scale 0 0", "fill 0 2 3"}, {x + "scale 1 0", ""}, {"fill 7 4 1;scale 0 0", "fill 0 4 1"}},
		13: {{xy + "add 0 1;scale 7 2", "in 0 2 3;scale 7 0;in 1 2 3;scale 7 2;add 1 3"}, {x + "add 0 0;scale -7 1", x + "scale -7 0;add 1 1"}, {xy + "sub 0 1;scale 7 2", ""}},
		14: {{xy + "scale 3 0;scale 3 1;add 2 3", xy + "add 0 1;scale 3 2"}, {xy + "scale 3 0;scale 4 1;add 2 3", ""}, {xy + "scale 3 0;scale 3 1;sub 2 3", ""}, {xy + "scale 0 0;fill 0 2 3;add 2 3", ""}},
		15: {{x + "add 0 0", x + "scale 2 0"}, {xy + "add 0 1", ""}, {x + "sub 0 0", ""}, {x + "in 0 2 3;add 0 1", x + "scale 2 0"}, {xy + "add 0 1;add 0 1;add 2 3", xy + "add 0 1;scale 2 2"}, {xy + "add 0 1;add 1 0;add 2 3", ""}, {"fill 1 2 3;fill 1 2 3;add 0 1", "fill 1 2 3;scale 2 0"}, {"fill 1 2 3;fill 2 2 3;add 0 1", ""}},
		16: {{x + "scale 3 0;add 0 1", x + "scale 4 0"}, {x + "scale -1 0;add 0 1", x + "scale 0 0"}, {x + "scale 9223372036854775807 0;add 0 1", x + "scale -9223372036854775808 0"}, {xy + "scale 3 1;add 0 2", ""}, {x + "scale 3 0;add 1 0", ""}, {x + "scale 3 0;sub 0 1", ""}},
		17: {{x + "sub 0 0", "fill 0 2 3"}, {xy + "sub 0 1", ""}, {x + "add 0 0", ""}, {x + "turn 0;turn 0;sub 1 2", "fill 0 3 2"}},
		18: {{x + "fill 0 2 3;add 0 1", x}, {x + "fill 1 2 3;add 0 1", ""}, {x + "fill 0 2 3;add 1 0", ""}, {x + "fill 0 2 3;sub 0 1", ""}, {xy + "scale 0 0;add 1 2", ""}},
		19: {{x + "fill -3 2 3;mul 0 1", x + "scale -3 0"}, {x + "fill -3 2 3;mul 1 0", ""}, {x + "fill -3 2 3;add 0 1", ""}, {"fill 2 1 1;fill 3 1 1;mul 0 1", "fill 2 1 1;scale 3 0"}},
		20: {{"fill 3 2 1;scale 4 0", "fill 12 2 1"}, {"fill -9223372036854775808 2 1;scale -1 0", "fill -9223372036854775808 2 1"}, {"in 3 2 1;scale 4 0", ""}},
		21: {{"fill 3 2 1;fill 4 2 1;add 0 1", "fill 7 2 1"}, {"fill 9223372036854775807 4 4;fill 1 4 4;add 0 1", "fill -9223372036854775808 4 4"}, {"fill 3 2 1;add 0 0", "fill 6 2 1"}, {"fill 3 2 1;in 0 2 1;add 0 1", ""}, {"fill 3 2 1;fill 4 2 1;sub 0 1", ""}},
		22: {{x + "turn 0;turn 1", x}, {x + "turn 0", ""}, {x + "turn 0;scale 1 1", ""}},
		23: {{pq + "times 0 1;turn 2", "in 5 2 3;turn 0;in 4 1 2;turn 2;times 1 3"}, {xy + "mul 0 1;turn 2", ""}},
		24: {{pq + "turn 1;turn 0;times 2 3", pq + "times 0 1;turn 2"}, {"in 4 1 2;in 5 2 3;turn 1;turn 2;turn 0;times 2 4", "in 4 1 2;in 5 2 3;times 0 1;turn 2"}, {p + "in 5 2 2;turn 0;times 1 2", ""}, {pq + "times 0 1", ""}},
		25: {{pqr + "times 0 1;times 3 2", pqr + "times 1 2;times 0 3"}, {pqr + "times 1 2;times 0 3", ""}},
		26: {{pqr + "times 1 2;times 0 3", pq + "times 0 1;in 6 3 4;times 2 3"}, {pqr + "times 0 1;times 3 2", ""}},
		27: {{xy + "add 0 1;turn 2", "in 0 2 3;turn 0;in 1 2 3;turn 2;add 1 3"}, {xy + "sub 0 1;turn 2", ""}},
		28: {{xy + "turn 0;turn 1;add 2 3", xy + "add 0 1;turn 2"}, {"in 0 2 2;turn 0;add 0 1", ""}, {xy + "turn 0;turn 1;sub 2 3", ""}},
		29: {{pq + "scale 5 0;times 2 1", pq + "times 0 1;scale 5 2"}, {pq + "scale 5 1;times 0 2", ""}, {xy + "scale 5 0;mul 2 1", ""}},
		30: {{xy + "in 6 3 4;add 0 1;times 3 2", "in 0 2 3;in 6 3 4;times 0 1;in 1 2 3;times 3 1;add 2 4"}, {"in 0 2 2;add 0 0;times 0 1", ""}, {xy + "in 6 3 4;sub 0 1;times 3 2", ""}},
		31: {{xy + "in 6 3 4;times 0 2;times 1 2;add 3 4", xy + "add 0 1;in 6 3 4;times 2 3"}, {"in 0 2 2;in 1 2 2;in 2 2 2;times 0 1;times 0 2;add 3 4", ""}, {xy + "in 6 3 4;times 0 2;times 1 2;sub 3 4", ""}, {"in 0 1 2;in 1 2 3;in 2 1 4;in 3 4 3;times 0 1;times 2 3;add 4 5", ""}},
		32: {{"fill 5 2 3;turn 0", "fill 5 3 2"}, {"fill 5 1 4;turn 0", "fill 5 4 1"}, {x + "turn 0", ""}},
		33: {{x + "scale 5 0;turn 1", x + "turn 0;scale 5 1"}, {x + "turn 0;scale 5 1", ""}, {x + "turn 0;turn 1", ""}},
	} {
		for _, s := range steps {
			wantStep(t, s.before, rule, len(graphOf(t, s.before))-1, s.after)
		}
	}
}

func TestStepExamples(t *testing.T) {
	wantStep(t, "in 0 1 1;add 0 0;add 1 1", 15, 1, "in 0 1 1;scale 2 0;add 1 1")
	wantStep(t, "in 0 1 1;add 0 0;add 1 1", 15, 2, "in 0 1 1;add 0 0;scale 2 1")
}

// TestStepPlaces: the node alone is changed, wherever it is used; the answer is laid out.
func TestStepPlaces(t *testing.T) {
	// The same tree at another node stays.
	wantStep(t, "in 0 1 1;scale 1 0;scale 1 0;add 1 2", 11, 1, "in 0 1 1;scale 1 0;add 0 1")
	wantStep(t, "in 0 1 1;scale 1 0;scale 1 0;add 1 2", 11, 2, "in 0 1 1;scale 1 0;add 1 0")
	// A node that is used three times.
	wantStep(t, "in 0 2 2;sub 0 0;add 1 1;times 2 1", 17, 1, "fill 0 2 2;add 0 0;times 1 0")
	wantStep(t, "in 0 2 2;in 1 2 2;add 0 1;mul 2 0;times 3 2;turn 4", 1, 2, "in 1 2 2;in 0 2 2;add 0 1;mul 2 1;times 3 2;turn 4")
	// What becomes one tree is there once.
	wantStep(t, "in 0 1 1;scale 1 0;add 0 0;add 1 1;mul 2 3", 11, 1, "in 0 1 1;add 0 0;mul 1 1")
	wantStep(t, "in 0 1 1;in 0 1 1;add 0 1;scale 2 0;sub 2 3", 15, 2, "in 0 1 1;scale 2 0;sub 1 1")
	// A node that the last one does not use must fit all the same.
	wantStep(t, "in 0 1 1;scale 1 0;in 1 1 1", 11, 1, "in 1 1 1")
	wantStep(t, "in 0 1 1;scale 2 0;in 1 1 1", 11, 1, "")
	wantStep(t, "in 3 1 1;in 2 1 1;in 1 1 1;in 0 1 1;add 3 2;add 1 4;scale 1 0;sub 4 5", 11, 6, "in 0 1 1;in 1 1 1;add 0 1;in 2 1 1;add 3 2;sub 2 4")
	// A first node.
	wantStep(t, "in 0 1 1;scale 1 0", 11, 0, "")
	wantStep(t, "fill 0 1 1", 12, 0, "")
}

func TestStepOutOfRange(t *testing.T) {
	g := nodes{in(0, 1, 1), scale(1, 0, 1, 1), two(api.Add, 1, 1, 1, 1)}
	for _, rule := range []int{0, -1, 34, 35, 100, 1 << 32, least, greatest} {
		for at := range g {
			wantStepErrno(t, g, rule, at, api.ErrRule)
		}
	}
	for _, at := range []int{-1, 3, 4, 100, 1 << 32, least, greatest} {
		for rule := -1; rule <= 35; rule++ {
			wantStepErrno(t, g, rule, at, api.ErrRule)
		}
	}
}

func TestStepNoGraph(t *testing.T) {
	for _, g := range []nodes{
		nil, {}, {turn(0, 1, 1)}, {in(8, 1, 1)}, {in(0, 1, 1), {Op: 9, Rows: 1, Cols: 1}}, {in(0, 1, 1), scale(1, 0, 1, 2)}, {in(0, 1, 1), scale(1, 0, 1, 1), turn(2, 1, 1)},
		{in(0, 1, 1), scale(1, 0, 1, 1), in(0, 2, 1)}, append(slices.Repeat(nodes{in(0, 1, 1)}, 100), scale(1, 0, 1, 1)),
	} {
		for _, at := range []int{0, 1, len(g) - 1, -1, 100, least, greatest} {
			for _, rule := range []int{11, 0, 34, least} {
				wantStepErrno(t, g, rule, at, api.ErrGraph)
			}
		}
	}
}

// chain lays out so many different trees, the last of them a node of this Op and the two ahead.
func chain(count, op int) nodes {
	g := nodes{in(0, 2, 2)}
	for len(g) < count-1 {
		g = append(g, two(api.Times, len(g)-1, 0, 2, 2))
	}
	return append(g, two(op, len(g)-1, len(g)-2, 2, 2))
}

func TestStepLong(t *testing.T) {
	wantLength := func(g nodes, rule, at, want int) {
		t.Helper()
		if x, e := thrift.Step(g, rule, at); len(x) != want || e != api.OK || !isGraph(x) {
			t.Errorf("P6: Step by rule %d at %d has %d nodes, %d, want %d", rule, at, len(x), e, want)
		}
	}
	wantLength(chain(99, api.Sub), 4, 98, 100)
	wantStepErrno(t, chain(100, api.Sub), 4, 99, api.ErrLong)
	wantLength(chain(100, api.Add), 1, 99, 100)
	wantStepErrno(t, chain(100, api.Sub), 1, 99, api.ErrRule)
	wantStepErrno(t, chain(100, api.Sub), 4, 100, api.ErrRule)
	wantStepErrno(t, chain(100, api.Sub), 34, 99, api.ErrRule)

	spread := append(chain(99, api.Add), two(api.Mul, 0, 98, 2, 2))
	wantStepErrno(t, spread, 8, 99, api.ErrLong)
	wantLength(append(chain(98, api.Add), two(api.Mul, 0, 97, 2, 2)), 8, 98, 100)

	// What is made may be there already: then it is no more than before.
	there := append(chain(98, api.Sub), scale(-1, 95, 2, 2), two(api.Sub, 97, 98, 2, 2))
	wantLength(there, 4, 97, 100)
	wantStepErrno(t, there, 4, 99, api.ErrLong)
	// Many nodes that the last one does not use are not in the answer.
	unused := chain(100, api.Sub)
	unused[99] = two(api.Sub, 1, 0, 2, 2)
	wantLength(unused, 4, 99, 4)
	// At the foot of the longest graph.
	foot := chain(100, api.Add)
	foot[1] = two(api.Sub, 0, 0, 2, 2)
	wantStepErrno(t, foot, 4, 1, api.ErrLong)
	wantLength(foot, 17, 1, 100)
}

// squareGraph has shapes that all go together, and few leaves: so many trees are the same.
func squareGraph(r *rand.Rand, count int) nodes {
	g := nodes{in(0, 2, 2)}
	for len(g) < count {
		node := pick(r, anyUse(r, g), anyUse(r, g), anyUse(r, g), in(r.IntN(2), 2, 2), fill(r.IntN(3)-1, 2, 2))
		if node.Op == api.Scale {
			node.K = r.IntN(4) - 1
		}
		g = append(g, node)
	}
	return g
}

// withLeft adds to a square graph the nodes of a left side: mostly as it is written, now and then with another number or tree in it.
func withLeft(r *rand.Rand, g nodes, side pattern, places map[string]int) (nodes, int) {
	if len(side.in) == 0 {
		if _, ok := places[side.word]; !ok || r.IntN(8) == 0 {
			places[side.word] = r.IntN(len(g))
		}
		return g, places[side.word]
	}
	node := api.Node{Op: opOf[side.word], Rows: 2, Cols: 2}
	number, parts := side.sides()
	if number != "" {
		node.K = pick(r, -1, 0, 1, 2, 3)
		if k, err := strconv.Atoi(number); err == nil && r.IntN(8) > 0 {
			node.K = k
		}
	}
	for i, part := range parts {
		var place int
		g, place = withLeft(r, g, part, places)
		*[]*int{&node.A, &node.B}[i] = place
	}
	return append(g, node), len(g)
}

// TestStepAgainstTrees holds Step against the written rules at whole trees, at graphs square and not, and Run of what comes out against Run of what went in (P9).
func TestStepAgainstTrees(t *testing.T) {
	r, rules := fixed(), writtenRules()
	var applied [34]int
	for round := range 1500 {
		g := anyGraph(r, 2+r.IntN(9))
		if round%2 == 0 {
			g, _ = withLeft(r, squareGraph(r, 1+r.IntN(4)), rules[1+r.IntN(33)][0], map[string]int{})
			g = append(g, anyUse(r, g))
		}
		inputs := anyInputs(r, g)
		gave, _ := thrift.Run(g, inputs)
		for rule := 1; rule <= 33; rule++ {
			for at := range g {
				want, fits := stepByTrees(g, rules[rule], at)
				x, e := thrift.Step(g, rule, at)
				if !slices.Equal(x, want) || fits != (e == api.OK) || !fits && e != api.ErrRule {
					t.Fatalf("P6: Step(%v, %d, %d) = %v, %d, want %v", g, rule, at, x, e, want)
				}
				if !fits {
					continue
				}
				applied[rule]++
				if gives, e := thrift.Run(x, inputs); e != api.OK || !sameMatrix(gives, gave) {
					t.Fatalf("P9: Step(%v, %d, %d) = %v gives %v, %d, want %v", g, rule, at, x, gives, e, gave)
				}
			}
		}
	}
	for rule := 1; rule <= 33; rule++ {
		if applied[rule] < 20 {
			t.Errorf("P6: rule %d has applied %d times", rule, applied[rule])
		}
	}
}

// TestStepRandomWalk takes many steps, one behind the other: what the graph gives stays (P9), and it stays laid out.
func TestStepRandomWalk(t *testing.T) {
	r := fixed()
	for range 300 {
		g := anyGraph(r, 5+r.IntN(20))
		inputs := anyInputs(r, g)
		gave, _ := thrift.Run(g, inputs)
		for range 60 {
			x, e := thrift.Step(g, 1+r.IntN(33), r.IntN(len(g)))
			if e != api.OK {
				continue
			}
			g = x
			if gives, e := thrift.Run(g, inputs); e != api.OK || !sameMatrix(gives, gave) || !isGraph(g) {
				t.Fatalf("P9: steps to %v give %v, %d, want %v", g, gives, e, gave)
			}
		}
	}
}
