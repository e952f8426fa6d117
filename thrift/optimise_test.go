package thrift_test

import (
	"math/rand/v2"
	"slices"
	"strings"
	"testing"

	"thrift/api"
	"thrift/thrift"
)

// wantOptimise asks for a note, and for a graph, if one is told.
func wantOptimise(t *testing.T, text string, rounds, room int, want string, note api.Note) {
	t.Helper()
	x, got, e := thrift.Optimise(graphOf(t, text), rounds, room)
	printed, _ := thrift.Print(x)
	if want != "" && printed != strings.ReplaceAll(want, ";", "\n")+"\n" || got != note || e != api.OK {
		t.Errorf("P8: Optimise(%q, %d, %d) = %q, %+v, %d, want %q, %+v", text, rounds, room, printed, got, e, want, note)
	}
}

func wantNoOptimise(t *testing.T, g nodes, rounds, room int, want api.Errno) {
	t.Helper()
	if x, note, e := thrift.Optimise(g, rounds, room); len(x) != 0 || note != (api.Note{}) || e != want {
		t.Errorf("P8: Optimise(%.200v, %d, %d) = %v, %+v, %d, want %d", g, rounds, room, x, note, e, want)
	}
}

const (
	factored   = "in 0 2 2;in 1 2 2;in 2 2 2;times 0 1;times 2 1;add 3 4"
	factoredBy = "in 0 2 2;in 1 2 2;times 0 1;in 2 2 2;times 3 1;add 2 4"
)

func TestOptimiseExample(t *testing.T) {
	cheap := "in 0 2 2;in 2 2 2;add 0 1;in 1 2 2;times 2 3"
	for _, room := range []int{9, 40, 100} {
		wantOptimise(t, factored, 1, room, cheap, api.Note{Before: 36, After: 20, Rounds: 1, Count: 9})
	}
}

func TestOptimiseNoRounds(t *testing.T) {
	wantOptimise(t, factored, 0, 100, factoredBy, api.Note{Before: 36, After: 36, Count: 6})
	wantOptimise(t, factored, 0, 6, factoredBy, api.Note{Before: 36, After: 36, Count: 6})
	wantOptimise(t, "in 0 2 2;scale 1 0;in 0 2 2;turn 2;scale 1 2;add 1 4", 0, 3, "in 0 2 2;scale 1 0;add 1 1", api.Note{Before: 12, After: 12, Count: 3})
	wantOptimise(t, "in 7 4 1", 0, 1, "in 7 4 1", api.Note{Count: 1})
	wantOptimise(t, "fill 0 1 1;fill -5 1 4", 0, 1, "fill -5 1 4", api.Note{Before: 1, After: 1, Count: 1})
}

// TestOptimiseFullAtFirst: only what the last tree uses counts, each different tree once; the count is told though it is above the room.
func TestOptimiseFullAtFirst(t *testing.T) {
	for rounds := range 5 {
		for room := 1; room <= 5; room++ {
			wantOptimise(t, factored, rounds, room, factoredBy, api.Note{Before: 36, After: 36, Full: true, Count: 6})
		}
	}
	wantOptimise(t, "in 0 2 2;scale 1 0;in 0 2 2;turn 2;scale 1 2;add 1 4", 4, 2, "in 0 2 2;scale 1 0;add 1 1", api.Note{Before: 12, After: 12, Full: true, Count: 3})
	wantOptimise(t, "fill 1 1 1;scale 1 0", 1, 1, "fill 1 1 1;scale 1 0", api.Note{Before: 2, After: 2, Full: true, Count: 2})
	long := strings.Repeat("in 0 1 1;", 99) + "in 1 1 1"
	wantOptimise(t, long, 4, 1, "in 1 1 1", api.Note{Rounds: 4, Count: 1})
	turns := nodes{in(0, 1, 1)}
	for len(turns) < 100 {
		turns = append(turns, turn(len(turns)-1, 1, 1))
	}
	for room, full := range map[int]bool{99: true, 100: false} {
		x, note, e := thrift.Optimise(turns, 0, room)
		if !slices.Equal(x, turns) || note != (api.Note{Before: 99, After: 99, Full: full, Count: 100}) || e != api.OK {
			t.Errorf("P8: Optimise of a hundred nodes with room for %d = %v, %+v, %d", room, x, note, e)
		}
	}
}

// TestOptimiseFullBehindARound: a round that comes to more than the room is not done, nor any behind it.
func TestOptimiseFullBehindARound(t *testing.T) {
	for rounds := 1; rounds <= 4; rounds++ {
		for room := 6; room <= 8; room++ {
			wantOptimise(t, factored, rounds, room, factoredBy, api.Note{Before: 36, After: 36, Full: true, Count: 6})
		}
	}
	scales := "in 0 2 2;scale 3 0;scale 5 1;scale 7 2"
	wantOptimise(t, scales, 1, 5, scales, api.Note{Before: 12, After: 12, Full: true, Count: 4})
	wantOptimise(t, scales, 1, 6, "", api.Note{Before: 12, After: 8, Rounds: 1, Count: 6})
	for rounds := 2; rounds <= 4; rounds++ {
		wantOptimise(t, scales, rounds, 6, "", api.Note{Before: 12, After: 8, Full: true, Rounds: 1, Count: 6})
		wantOptimise(t, scales, rounds, 7, "in 0 2 2;scale 105 0", api.Note{Before: 12, After: 4, Rounds: rounds, Count: 7})
	}
}

// TestOptimiseRounds: all ways are those at a round's beginning, and rounds that find nothing more are done, too.
func TestOptimiseRounds(t *testing.T) {
	turns := "in 0 2 3;turn 0;turn 1;turn 2;turn 3"
	wantOptimise(t, turns, 1, 5, "in 0 2 3", api.Note{Before: 24, Rounds: 1, Count: 3})
	for rounds := range 5 {
		wantOptimise(t, "in 0 1 1;in 1 1 1;turn 1;in 0 1 1", rounds, 1, "in 0 1 1", api.Note{Rounds: rounds, Count: 1})
	}
	// turn(turn(x)) is x only behind a round; then what stands twice need only be the same.
	same := "in 0 2 2;turn 0;turn 1;add 0 2"
	wantOptimise(t, same, 1, 100, "in 0 2 2;add 0 0", api.Note{Before: 12, After: 4, Rounds: 1, Count: 4})
	wantOptimise(t, same, 2, 100, "", api.Note{Before: 12, After: 4, Rounds: 2, Count: 7})
	wantOptimise(t, "in 0 2 2;turn 0;turn 1;sub 0 2", 1, 100, "in 0 2 2;sub 0 0", api.Note{Before: 12, After: 4, Rounds: 1, Count: 6})
	wantOptimise(t, "in 0 2 2;turn 0;turn 1;sub 0 2", 2, 100, "fill 0 2 2", api.Note{Before: 12, After: 1, Rounds: 2, Count: 9})
	// 0 times x stands for 0 as a part.
	wantOptimise(t, "in 0 2 2;in 1 2 2;scale 0 1;add 0 2", 1, 100, "in 0 2 2;fill 0 2 2;add 0 1", api.Note{Before: 8, After: 5, Rounds: 1, Count: 6})
	wantOptimise(t, "in 0 2 2;in 1 2 2;scale 0 1;add 0 2", 2, 100, "in 0 2 2", api.Note{Before: 8, Rounds: 2, Count: 6})
}

// TestOptimiseByEachRule: the right side costs less, or else what it makes is told by the count.
func TestOptimiseByEachRule(t *testing.T) {
	for _, c := range []struct {
		text, want    string
		before, after int
		count         int
	}{
		{"in 0 2 2;in 1 2 2;add 0 1", "in 0 2 2;in 1 2 2;add 0 1", 4, 4, 4},
		{"in 0 2 2;in 1 2 2;mul 0 1", "in 0 2 2;in 1 2 2;mul 0 1", 4, 4, 4},
		{"in 0 2 2;in 1 2 2;sub 0 1", "in 0 2 2;in 1 2 2;sub 0 1", 4, 4, 5},
		{"in 0 2 2;in 1 2 2;scale -1 1;add 0 2", "in 0 2 2;in 1 2 2;sub 0 1", 8, 4, 6},
		{"in 0 2 2;in 1 2 2;in 2 2 2;mul 0 1;mul 0 2;add 3 4", "in 0 2 2;in 1 2 2;in 2 2 2;add 1 2;mul 0 3", 12, 8, 11},
		{"in 0 2 2;scale 3 0;scale 4 1", "in 0 2 2;scale 12 0", 8, 4, 4},
		{"in 0 2 2;scale 1 0", "in 0 2 2", 4, 0, 2},
		{"in 0 2 3;scale 0 0", "fill 0 2 3", 6, 1, 3},
		{"in 0 2 2;in 1 2 2;scale 5 0;scale 5 1;add 2 3", "in 0 2 2;in 1 2 2;add 0 1;scale 5 2", 12, 8, 8},
		{"in 0 2 2;add 0 0;turn 1", "", 8, 8, 6},
		{"in 0 2 2;scale 4 0;add 0 1", "in 0 2 2;scale 5 0", 8, 4, 5},
		{"in 0 3 2;sub 0 0", "fill 0 3 2", 6, 1, 5},
		{"in 0 2 2;fill 0 2 2;add 0 1", "in 0 2 2", 5, 0, 4},
		{"in 0 2 2;fill 6 2 2;mul 0 1", "in 0 2 2;scale 6 0", 5, 4, 5},
		{"fill 6 2 2;scale 7 0", "fill 42 2 2", 5, 1, 3},
		{"fill 6 2 2;fill 7 2 2;add 0 1", "fill 13 2 2", 6, 1, 5},
		{"in 0 2 3;turn 0;turn 1", "in 0 2 3", 12, 0, 3},
		{"in 0 4 1;in 1 1 4;times 0 1;turn 2", "in 1 1 4;turn 0;in 0 4 1;turn 2;times 1 3", 48, 40, 7},
		{"in 0 1 4;in 1 4 1;turn 1;turn 0;times 2 3;turn 4", "in 0 1 4;in 1 4 1;times 0 1;turn 2;turn 3", 17, 10, 11},
		{"in 0 4 1;in 1 1 4;in 2 4 1;times 0 1;times 3 2", "in 0 4 1;in 1 1 4;in 2 4 1;times 1 2;times 0 3", 64, 16, 7},
		{"in 0 1 4;in 1 4 1;in 2 1 4;times 1 2;times 0 3", "in 0 1 4;in 1 4 1;times 0 1;in 2 1 4;times 2 3", 64, 16, 7},
		{"in 0 2 3;in 1 2 3;add 0 1;turn 2", "in 0 2 3;in 1 2 3;add 0 1;turn 2", 12, 12, 8},
		{"in 0 2 3;in 1 2 3;turn 0;turn 1;add 2 3", "in 0 2 3;in 1 2 3;add 0 1;turn 2", 18, 12, 8},
		{"in 0 4 4;scale 3 0;in 1 4 1;times 1 2", "in 0 4 4;in 1 4 1;times 0 1;scale 3 2", 48, 36, 6},
		{"fill 9 2 3;turn 0", "fill 9 3 2", 7, 1, 3},
		{"in 0 2 3;scale 5 0;turn 1", "in 0 2 3;scale 5 0;turn 1", 12, 12, 5},
	} {
		wantOptimise(t, c.text, 1, 100, c.want, api.Note{Before: c.before, After: c.after, Rounds: 1, Count: c.count})
	}
}

func TestOptimiseNumbersGoRound(t *testing.T) {
	wantOptimise(t, "in 0 2 2;scale 4294967296 0;scale 4294967296 1", 1, 10, "in 0 2 2;scale 0 0", api.Note{Before: 8, After: 4, Rounds: 1, Count: 4})
	wantOptimise(t, "in 0 2 2;scale 4294967296 0;scale 4294967296 1", 2, 10, "fill 0 2 2", api.Note{Before: 8, After: 1, Rounds: 2, Count: 5})
	wantOptimise(t, "in 0 2 2;scale 9223372036854775807 0;add 0 1", 1, 10, "in 0 2 2;scale -9223372036854775808 0", api.Note{Before: 8, After: 4, Rounds: 1, Count: 5})
	wantOptimise(t, "fill 9223372036854775807 2 2;fill 1 2 2;add 0 1", 1, 10, "fill -9223372036854775808 2 2", api.Note{Before: 6, After: 1, Rounds: 1, Count: 5})
}

// dear is a graph of so many nodes, each of which uses the one ahead of it twice, so that it soon costs more than the bound; by turns its Ops are such that rules make little of it.
func dear(count int) nodes {
	g := nodes{in(0, 2, 2)}
	for len(g) < count {
		g = append(g, two([]int{api.Mul, api.Times}[len(g)%2], len(g)-1, len(g)-1, 2, 2))
	}
	return g
}

// TestOptimiseAtTheBound: where all trees cost the bound, the answer is one of them still, even if a class has itself as a part.
func TestOptimiseAtTheBound(t *testing.T) {
	g := append(dear(61), scale(1, 60, 2, 2), scale(1, 61, 2, 2), turn(62, 2, 2), turn(63, 2, 2))
	for rounds := range 5 {
		x, note, e := thrift.Optimise(g, rounds, 100)
		if e != api.OK || !isGraph(x) || note.Before != api.MaxCost || note.After != api.MaxCost || note.Rounds != rounds || note.Full {
			t.Errorf("P8: Optimise of a tree above the bound, %d rounds: %v, %+v, %d", rounds, x, note, e)
		}
	}
	g = append(dear(61), two(api.Sub, 60, 60, 2, 2))
	x, note, e := thrift.Optimise(g, 1, 100)
	if !slices.Equal(x, nodes{fill(0, 2, 2)}) || note != (api.Note{Before: api.MaxCost, After: 1, Rounds: 1, Count: 65}) || e != api.OK {
		t.Errorf("P8: Optimise of what costs the bound less itself = %v, %+v, %d", x, note, e)
	}
	x, note, e = thrift.Optimise(g, 1, 64)
	if !slices.Equal(x, g) || note != (api.Note{Before: api.MaxCost, After: api.MaxCost, Full: true, Count: 62}) || e != api.OK {
		t.Errorf("P8: Optimise of it with too little room = %v, %+v, %d", x, note, e)
	}
}

func TestOptimiseNoGraph(t *testing.T) {
	for _, g := range []nodes{
		nil, {}, slices.Repeat(nodes{in(0, 1, 1)}, 101), make(nodes, 1000000), {{}}, {{Op: 9, Rows: 1, Cols: 1}}, {in(8, 1, 1)}, {in(0, 5, 1)}, {in(0, 1, 0)}, {turn(0, 1, 1)},
		{in(0, 1, 2), in(0, 2, 1)}, {in(0, 1, 2), turn(0, 1, 2)}, {in(0, 1, 2), turn(0, 2, 1), two(api.Add, 0, 1, 1, 2)}, {in(0, 1, 1), two(api.Add, 0, 1, 1, 1)},
		{in(0, 1, 1), two(api.Add, -1, 0, 1, 1)}, {in(0, 1, 1), {Op: api.Turn, K: 1, Rows: 1, Cols: 1}}, {{Op: api.Turn, A: least}, in(0, 1, 1)},
	} {
		for _, rounds := range []int{0, 4, -1, 5, least, greatest} {
			for _, room := range []int{1, 100, 0, 101, least, greatest} {
				wantNoOptimise(t, g, rounds, room, api.ErrGraph)
			}
		}
	}
}

func TestOptimiseNumbers(t *testing.T) {
	g := nodes{in(0, 1, 1)}
	for _, rounds := range append([]int{3}, oddNumbers...) {
		for _, room := range append([]int{3, 50}, oddNumbers...) {
			if rounds < 0 || rounds > 4 || room < 1 || room > 100 {
				wantNoOptimise(t, g, rounds, room, api.ErrNumber)
				continue
			}
			x, note, e := thrift.Optimise(g, rounds, room)
			if !slices.Equal(x, g) || note != (api.Note{Rounds: rounds, Count: 1}) || e != api.OK {
				t.Errorf("P8: Optimise(%v, %d, %d) = %v, %+v, %d", g, rounds, room, x, note, e)
			}
		}
	}
}

// anyLeft is a graph in which the left side of some rule stands.
func anyLeft(r *rand.Rand, rules [34][2]pattern) nodes {
	g, at := withLeft(r, squareGraph(r, 1+r.IntN(3)), rules[1+r.IntN(33)][0], map[string]int{})
	if r.IntN(2) == 0 {
		g = append(g, anyUse(r, g))
	} else {
		g = append(g, turn(at, 2, 2))
	}
	return g
}

// wantByTaking holds Optimise against the second way to take down.
func wantByTaking(t *testing.T, rules [34][2]pattern, g nodes, rounds, room int) api.Note {
	t.Helper()
	want, taken := notedBy(rules, g, rounds, room)
	x, note, e := thrift.Optimise(g, rounds, room)
	if note != want || e != api.OK {
		t.Fatalf("P8: Optimise(%v, %d, %d) = %v, %+v, %d, want %+v", g, rounds, room, x, note, e, want)
	}
	if !isGraph(x) || !taken.has(x) || atMost(treeCost(x, len(x)-1)) != note.After {
		t.Fatalf("P8: Optimise(%v, %d, %d) = %v, which is not the same by what is taken down, or does not cost %d", g, rounds, room, x, note.After)
	}
	if note.After < 10000 && !slices.Equal(x, laidOut(grown(x, len(x)-1, 0, nil))) {
		t.Fatalf("P8: Optimise(%v, %d, %d) = %v, which is not laid out", g, rounds, room, x)
	}
	if first := laidOut(grown(g, len(g)-1, 0, nil)); len(first) > room && !slices.Equal(x, first) {
		t.Fatalf("P8: Optimise(%v, %d, %d) = %v, want the first graph laid out: %v", g, rounds, room, x, first)
	}
	return note
}

func TestOptimiseByTaking(t *testing.T) {
	r, rules := fixed(), writtenRules()
	full, done, cheaper := 0, 0, 0
	for i := range 8000 {
		g := anyLeft(r, rules)
		switch i % 4 {
		case 0:
			g = anyGraph(r, 2+r.IntN(9))
		case 1:
			g = squareGraph(r, 2+r.IntN(7))
		}
		note := wantByTaking(t, rules, g, r.IntN(5), pick(r, 1+r.IntN(100), 1+r.IntN(12), 100))
		if note.Full {
			full++
		}
		if note.Rounds == 4 {
			done++
		}
		if note.After < note.Before {
			cheaper++
		}
	}
	if full < 1000 || done < 500 || cheaper < 1000 {
		t.Errorf("P8: of 8000 graphs %d were full, %d had four rounds, %d became cheaper", full, done, cheaper)
	}
}

// TestOptimiseAtTheEdgeOfRoom: room for just the count behind a round, and for one less.
func TestOptimiseAtTheEdgeOfRoom(t *testing.T) {
	r, rules := fixed(), writtenRules()
	for range 150 {
		g := anyLeft(r, rules)
		for rounds := range 4 {
			_, note, _ := thrift.Optimise(g, rounds, 100)
			if note.Full {
				break
			}
			if with := wantByTaking(t, rules, g, rounds, note.Count); with.Rounds != rounds && !with.Full {
				t.Errorf("P8: Optimise(%v, %d, %d) notes %+v", g, rounds, note.Count, with)
			}
			if note.Count > 1 && !wantByTaking(t, rules, g, rounds, note.Count-1).Full {
				t.Errorf("P8: Optimise(%v, %d, %d) is not full", g, rounds, note.Count-1)
			}
		}
	}
}

// TestOptimiseGives: the answer gives what the first graph gives, without an input that this has not.
func TestOptimiseGives(t *testing.T) {
	r, rules := fixed(), writtenRules()
	for i := range 3000 {
		g := anyGraph(r, 2+r.IntN(20))
		if i%2 == 0 {
			g = anyLeft(r, rules)
		}
		inputs := anyInputs(r, g)
		want, _ := thrift.Run(g, inputs)
		x, note, _ := thrift.Optimise(g, r.IntN(5), 1+r.IntN(100))
		if gives, e := thrift.Run(x, inputs); e != api.OK || !sameMatrix(gives, want) || note.After > note.Before {
			t.Fatalf("P9: of %v Optimise makes %v, %+v, which gives %v, %d, want %v", g, x, note, gives, e, want)
		}
	}
}

// withSteps are some graphs and those that come of them by one step, each once.
func withSteps(from []nodes) []nodes {
	list := slices.Clone(from)
	known := map[string]bool{}
	for _, g := range from {
		text, _ := thrift.Print(g)
		known[text] = true
	}
	for _, g := range from {
		for rule := 1; rule <= 33; rule++ {
			for at := range g {
				x, e := thrift.Step(g, rule, at)
				if text, _ := thrift.Print(x); e == api.OK && !known[text] {
					known[text] = true
					list = append(list, x)
				}
			}
		}
	}
	return list
}

// TestOptimiseAgainstSteps goes through all graphs that come of one by up to three steps, as long as they are not too many.
func TestOptimiseAgainstSteps(t *testing.T) {
	r, rules := fixed(), writtenRules()
	gone := 0
	for range 150 {
		g := anyLeft(r, rules)
		reached := []nodes{g}
		for rounds := 0; rounds <= 3; rounds++ {
			x, note, e := thrift.Optimise(g, rounds, 100)
			if note.Full || e != api.OK {
				break
			}
			for _, h := range reached {
				if cost, _ := thrift.Cost(h); cost < note.After {
					t.Fatalf("P9: Optimise(%v, %d, 100) = %v, %+v, but steps come to %v, which costs %d", g, rounds, x, note, h, cost)
				}
			}
			gone += rounds
			if len(reached) > 30 {
				break
			}
			reached = withSteps(reached)
		}
	}
	if gone < 250 {
		t.Errorf("P9: only %d rounds were held against steps", gone)
	}
}

// TestOptimiseLongWalks goes four steps and as many rounds.
func TestOptimiseLongWalks(t *testing.T) {
	r, rules := fixed(), writtenRules()
	for range 150 {
		g := anyLeft(r, rules)
		x, note, _ := thrift.Optimise(g, 4, 100)
		if note.Full {
			continue
		}
		for range 5 {
			h := g
			for steps := 0; steps < 4; {
				y, e := thrift.Step(h, 1+r.IntN(33), r.IntN(len(h)))
				if e == api.OK {
					h = y
				}
				if e == api.OK || r.IntN(60) == 0 {
					steps++
				}
			}
			if cost, _ := thrift.Cost(h); cost < note.After {
				t.Fatalf("P9: Optimise(%v, 4, 100) = %v, %+v, but steps come to %v, which costs %d", g, x, note, h, cost)
			}
		}
	}
}

// TestOptimiseAgain: asked again and again, among many trees that cost the same, the answer is the same.
func TestOptimiseAgain(t *testing.T) {
	r, rules := fixed(), writtenRules()
	graphs := []nodes{
		graphOf(t, "in 0 2 2;in 1 2 2;in 2 2 2;add 0 1;add 3 2"),
		graphOf(t, "in 0 2 2;in 1 2 2;in 2 2 2;mul 0 1;mul 3 2;add 4 0"),
		graphOf(t, "in 0 2 2;in 1 2 2;times 0 1;times 2 0;times 3 1"),
		append(dear(61), scale(1, 60, 2, 2), turn(61, 2, 2), turn(62, 2, 2)),
	}
	for range 30 {
		graphs = append(graphs, anyLeft(r, rules))
	}
	for _, g := range graphs {
		for rounds := range 5 {
			want, note, _ := thrift.Optimise(g, rounds, 100)
			for range 12 {
				thrift.Optimise(pick(r, graphs...), 1, 50)
				if x, again, e := thrift.Optimise(g, rounds, 100); !slices.Equal(x, want) || again != note || e != api.OK {
					t.Fatalf("P2: Optimise(%v, %d, 100) = %v, %+v, and then %v, %+v, %d", g, rounds, want, note, x, again, e)
				}
			}
		}
	}
}
