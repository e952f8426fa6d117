package thrift_test

import (
	"slices"
	"strings"
	"testing"

	"thrift/api"
	"thrift/thrift"
)

var oddNumbers = []int{least, least + 1, -1, 0, 1, 2, 4, 5, 8, 33, 34, 99, 100, 101, 1 << 32, greatest - 1, greatest}

// wantNothing asks that beside an error nothing else comes out.
func wantNothing(t *testing.T, call string, e api.Errno, nothing bool) {
	t.Helper()
	if e < api.OK || e > api.ErrNumber || e != api.OK && !nothing {
		t.Errorf("P1: %s answers %d with more beside it, or no error at all", call, e)
	}
}

func callAll(t *testing.T, g nodes, a, b int) {
	t.Helper()
	text, e := thrift.Print(g)
	wantNothing(t, "Print", e, text == "")
	cost, e := thrift.Cost(g)
	wantNothing(t, "Cost", e, cost == 0)
	m, e := thrift.Run(g, []api.Matrix{{Rows: a, Cols: b, Numbers: []int{1}}})
	wantNothing(t, "Run", e, m.Rows == 0 && m.Cols == 0 && len(m.Numbers) == 0)
	out, e := thrift.Step(g, a, b)
	wantNothing(t, "Step", e, len(out) == 0)
	out, note, e := thrift.Optimise(g, a, b)
	wantNothing(t, "Optimise", e, len(out) == 0 && note == api.Note{})
}

func TestAnyNumbers(t *testing.T) {
	for _, a := range oddNumbers {
		for _, b := range oddNumbers {
			for op := -1; op <= 9; op++ {
				callAll(t, nodes{in(0, 1, 1), {Op: op, A: a, B: b, K: a, Rows: b, Cols: a}}, a, b)
				callAll(t, nodes{{Op: op, A: a, B: a, K: b, Rows: 1, Cols: 1}, turn(0, 1, 1)}, a, b)
			}
			callAll(t, nil, a, b)
		}
	}
	callAll(t, make(nodes, 5000000), 1, 1)
}

func TestJoinAnyNumbers(t *testing.T) {
	for _, a := range oddNumbers {
		for _, b := range oddNumbers {
			many := slices.Repeat(terms{leaf(b)}, max(0, min(a, 300)))
			for _, list := range []terms{nil, {{Op: a, K: b, A: a, B: b}}, {leaf(b), {Op: a, K: b, A: b, B: a}}, many, make(terms, len(many))} {
				for _, same := range []pairs{nil, {{A: a, B: b}}, {{}, {A: b}, {B: a}}, make(pairs, len(many))} {
					places, e := thrift.Join(list, same)
					wantNothing(t, "Join", e, len(places) == 0)
					if e != api.OK && e != api.ErrNumber || e == api.OK && len(places) != len(list) {
						t.Errorf("P7: Join(%v, %v) = %v, %d", list, same, places, e)
					}
				}
			}
		}
	}
}

// TestAnyGraphsAndNumbers calls with graphs that are right, and numbers that are not.
func TestAnyGraphsAndNumbers(t *testing.T) {
	r := fixed()
	for range 20 {
		g := anyGraph(r, 1+r.IntN(12))
		for _, a := range oddNumbers {
			for _, b := range oddNumbers {
				callAll(t, g, a, b)
			}
		}
	}
	deep := nodes{in(0, 1, 1)}
	for len(deep) < 100 {
		deep = append(deep, two(api.Add, len(deep)-1, len(deep)-1, 1, 1))
	}
	for rule := -1; rule <= 35; rule++ {
		for at := -1; at <= 101; at++ {
			callAll(t, deep, rule, at)
		}
	}
}

func TestAnyTexts(t *testing.T) {
	r := fixed()
	for range 20000 {
		text := make([]byte, r.IntN(60))
		for i := range text {
			text[i] = pick(r, byte(r.IntN(256)), ' ', '\n', '0', '1', 'i', 'n', '-')
		}
		g, line, e := thrift.Read(string(text))
		if e != api.OK && len(g) > 0 || e == api.OK && (line != 0 || !isGraph(g)) || line < 0 || line > len(text) {
			t.Fatalf("P1: Read(%q) = %v, %d, %d", text, g, line, e)
		}
	}
	for _, part := range []string{"x", "\n", " ", "\x00", "\xff", "-", "0", "9", "in ", "in 0 1 1\n", "turn 0\n"} {
		for _, length := range []int{1, 99, 100, 101, 3999, 4000, 4001, 5000000} {
			text := strings.Repeat(part, length)
			g, line, e := thrift.Read(text)
			if long := len(text) > api.MaxText; long != (e == api.ErrLong) || long && (line != 0 || g != nil) {
				t.Errorf("P1: Read of %d times %q = %v, %d, %d", length, part, g, line, e)
			}
		}
	}
}

// TestFirstError: the error that is named first is the answer, where several apply.
func TestFirstError(t *testing.T) {
	wantRefused(t, strings.Repeat("turn 0\nx\n", 1000), 0, api.ErrLong)
	wantRefused(t, strings.Repeat("in 9 9 9\n", 101), 100, api.ErrSyntax)
	wantRefused(t, "turn 9\nin 9 9 9\nturn\nin", 2, api.ErrSyntax)
	wantRefused(t, "turn 9\nin 9 9 9\nturn 2", 0, api.ErrShape)
}

func TestArgumentsStay(t *testing.T) {
	r := fixed()
	for range 2000 {
		g := anyGraph(r, 2+r.IntN(20))
		if r.IntN(3) == 0 {
			g[r.IntN(len(g))].Rows++
		}
		whole, part := slices.Clone(g), g[:1+r.IntN(len(g)-1)]
		inputs := anyInputs(r, part)
		were := cloneMatrices(inputs)
		thrift.Print(part)
		thrift.Cost(part)
		thrift.Run(part, inputs[:r.IntN(len(inputs)+1)])
		for rule := range 35 {
			thrift.Step(part, rule, r.IntN(len(part)))
		}
		thrift.Optimise(part, r.IntN(4), 1+r.IntN(100))
		if !slices.Equal(g, whole) || !slices.EqualFunc(inputs, were, sameMatrix) {
			t.Fatalf("P2: %v became %v, %v became %v", whole, g, were, inputs)
		}
	}
}

func cloneMatrices(list []api.Matrix) []api.Matrix {
	list = slices.Clone(list)
	for i := range list {
		list[i].Numbers = slices.Clone(list[i].Numbers)
	}
	return list
}

// spoil writes into all of a list, and into its spare room.
func spoil[T any](list []T, with T) {
	for i := range list[:cap(list)] {
		list[:cap(list)][i] = with
	}
}

// TestRunAnswersAreNew writes into what Run answers, and asks that nothing else is changed by it.
func TestRunAnswersAreNew(t *testing.T) {
	r := fixed()
	for range 1000 {
		g := anyGraph(r, 1+r.IntN(5))
		if r.IntN(3) == 0 {
			g = nodes{in(0, 2, 2)}
		}
		inputs := anyInputs(r, g)
		were := cloneMatrices(inputs)
		m, _ := thrift.Run(g, inputs)
		other, _ := thrift.Run(g, inputs)
		want := cloneMatrices([]api.Matrix{m})[0]
		spoil(m.Numbers, -77)
		again, _ := thrift.Run(g, inputs)
		if !sameMatrix(other, want) || !sameMatrix(again, want) || !slices.EqualFunc(inputs, were, sameMatrix) {
			t.Fatalf("P2: writing into what Run(%v) answered changed %v, %v or %v, want %v", g, other, again, inputs, want)
		}
		for i := range inputs {
			spoil(inputs[i].Numbers, -78)
		}
		if !sameMatrix(other, want) {
			t.Fatalf("P2: writing into the inputs of Run(%v) changed its answer %v to %v", g, want, other)
		}
	}
}

// TestStepAnswersAreNew does so for Step.
func TestStepAnswersAreNew(t *testing.T) {
	r := fixed()
	for range 300 {
		g := anyGraph(r, 2+r.IntN(8))
		whole := slices.Clone(g)
		for rule := 1; rule <= 33; rule++ {
			at := r.IntN(len(g))
			x, _ := thrift.Step(g, rule, at)
			other, _ := thrift.Step(g, rule, at)
			want := slices.Clone(x)
			spoil(x, api.Node{Op: -1})
			again, _ := thrift.Step(g, rule, at)
			if !slices.Equal(other, want) || !slices.Equal(again, want) || !slices.Equal(g, whole) {
				t.Fatalf("P2: writing into what Step(%v, %d, %d) answered changed %v, %v or %v, want %v", whole, rule, at, other, again, g, want)
			}
			spoil(g, api.Node{Op: -2})
			if !slices.Equal(other, want) {
				t.Fatalf("P2: writing into the graph of Step(%v, %d, %d) changed its answer %v to %v", whole, rule, at, want, other)
			}
			copy(g, whole)
		}
	}
}

// TestOptimiseAnswersAreNew does so for Optimise, also where the answer is the graph as it was.
func TestOptimiseAnswersAreNew(t *testing.T) {
	r, rules := fixed(), writtenRules()
	for i := range 500 {
		g := anyLeft(r, rules)
		if i%3 == 0 {
			g = laidOut(grown(g, len(g)-1, 0, nil))
		}
		g = append(make(nodes, 0, len(g)+5), g...)
		whole := slices.Clone(g)
		rounds, room := r.IntN(4), pick(r, 1, 8, 100)
		x, _, _ := thrift.Optimise(g, rounds, room)
		other, _, _ := thrift.Optimise(g, rounds, room)
		want := slices.Clone(x)
		spoil(x, api.Node{Op: -1})
		again, _, _ := thrift.Optimise(g, rounds, room)
		if !slices.Equal(other, want) || !slices.Equal(again, want) || !slices.Equal(g, whole) {
			t.Fatalf("P2: writing into what Optimise(%v, %d, %d) answered changed %v, %v or %v, want %v", whole, rounds, room, other, again, g, want)
		}
		spoil(g, api.Node{Op: -2})
		if !slices.Equal(other, want) {
			t.Fatalf("P2: writing into the graph of Optimise(%v, %d, %d) changed its answer %v to %v", whole, rounds, room, want, other)
		}
	}
}

func TestJoinArgumentsStay(t *testing.T) {
	r := fixed()
	for range 2000 {
		count := 2 + r.IntN(20)
		list, same := anyTerms(r, count), anyPairs(r, count, 1+r.IntN(5))
		if r.IntN(3) == 0 {
			list[r.IntN(count)].A = pick(r, oddNumbers...)
			same[r.IntN(len(same))].B = pick(r, oddNumbers...)
		}
		wereTerms, werePairs := slices.Clone(list), slices.Clone(same)
		thrift.Join(list, same)
		thrift.Join(list[:1+r.IntN(count)], same[:r.IntN(len(same))])
		if !slices.Equal(list, wereTerms) || !slices.Equal(same, werePairs) {
			t.Fatalf("P2: Join made of %v, %v: %v, %v", wereTerms, werePairs, list, same)
		}
	}
}

// TestJoinAnswersAreNew writes into what Join answers and into what it was given, and asks that nothing else is changed by it.
func TestJoinAnswersAreNew(t *testing.T) {
	r := fixed()
	for range 1000 {
		count := 1 + r.IntN(20)
		list, same := anyTerms(r, count), anyPairs(r, count, r.IntN(5))
		wereTerms, werePairs := slices.Clone(list), slices.Clone(same)
		places, _ := thrift.Join(list, same)
		other, _ := thrift.Join(list, same)
		want := slices.Clone(places)
		spoil(places, -77)
		again, _ := thrift.Join(list, same)
		if !slices.Equal(other, want) || !slices.Equal(again, want) || !slices.Equal(list, wereTerms) || !slices.Equal(same, werePairs) {
			t.Fatalf("P2: writing into what Join(%v, %v) answered changed %v, %v or what it was given, want %v", wereTerms, werePairs, other, again, want)
		}
		spoil(list, leaf(-78))
		spoil(same, api.Pair{A: -79})
		if !slices.Equal(other, want) {
			t.Fatalf("P2: writing into what Join(%v, %v) was given changed its answer %v to %v", wereTerms, werePairs, want, other)
		}
		wantJoin(t, list[:1], nil, 0)
	}
}

func TestAnswersAreNew(t *testing.T) {
	texts := []string{"in 0 1 1\nturn 0", "in 0 1 1\nturn 0\n", "in 3 2 2\nadd 0 0\nmul 0 1\n", strings.Repeat("in 0 1 1\n", 100)}
	var answers, want []nodes
	for range 3 {
		for _, text := range texts {
			g, _, _ := thrift.Read(text)
			answers, want = append(answers, g), append(want, slices.Clone(g))
		}
	}
	for i, g := range answers {
		spoil(g, api.Node{Op: -1})
		for j := i + 1; j < len(answers); j++ {
			if !slices.Equal(answers[j], want[j]) {
				t.Fatalf("P2: answer %d was changed through answer %d", j, i)
			}
		}
		wantRead(t, texts[i%len(texts)], want[i])
	}
}

func TestArgumentsAreNotKept(t *testing.T) {
	g := nodes{in(0, 2, 2), scale(3, 0, 2, 2)}
	text, _ := thrift.Print(g)
	g[1] = fill(9, 1, 1)
	wantPrint(t, g, "in 0 2 2\nfill 9 1 1\n")
	wantCost(t, g, 1)
	wantRun(t, g, matrix(1, 1, 9), matrix(2, 2, 1, 2, 3, 4))
	g[0], g[1] = in(0, 1, 1), scale(1, 0, 1, 1)
	if x, e := thrift.Step(g, 11, 1); !slices.Equal(x, g[:1]) || e != api.OK {
		t.Errorf("P2: Step of a list that had held another graph = %v, %d", x, e)
	}
	if x, note, e := thrift.Optimise(g, 1, 9); !slices.Equal(x, g[:1]) || note != (api.Note{Before: 1, Rounds: 1, Count: 2}) || e != api.OK {
		t.Errorf("P2: Optimise of a list that had held another graph = %v, %+v, %d", x, note, e)
	}
	if text != "in 0 2 2\nscale 3 0\n" {
		t.Errorf("P2: a text that came out became %q", text)
	}
}
