package thrift_test

import (
	"math/rand/v2"
	"slices"
	"testing"

	"thrift/api"
	"thrift/thrift"
)

type (
	terms = []api.Term
	pairs = []api.Pair
)

func leaf(op int) api.Term { return api.Term{Op: op, A: -1, B: -1} }

func uses(op int, parts ...int) api.Term {
	term := leaf(op)
	term.A = parts[0]
	if len(parts) > 1 {
		term.B = parts[1]
	}
	return term
}

// chainOf is x, f(x), f(f(x)) and so on.
func chainOf(count int) terms {
	list := terms{leaf(1)}
	for len(list) < count {
		list = append(list, uses(9, len(list)-1))
	}
	return list
}

func wantJoin(t *testing.T, list terms, same pairs, want ...int) {
	t.Helper()
	got, e := thrift.Join(list, same)
	if !slices.Equal(got, want) || e != api.OK {
		t.Errorf("P7: Join(%v, %v) = %v, %d, want %v", list, same, got, e, want)
	}
}

func wantNoJoin(t *testing.T, list terms, same pairs) {
	t.Helper()
	if got, e := thrift.Join(list, same); len(got) != 0 || e != api.ErrNumber {
		t.Errorf("P7: Join(%.200v, %.200v) = %v, %d, want an error", list, same, got, e)
	}
}

// relation tells of each two terms whether they are the same.
type relation [][]bool

func (r relation) set(a, b int) bool {
	news := !r[a][b] || !r[b][a]
	r[a][b], r[b][a] = true, true
	return news
}

// parts asks whether two parts are the same; -1 is so to itself alone.
func (r relation) parts(a, b int) bool {
	return a == b || a >= 0 && b >= 0 && r[a][b]
}

// over makes all the same that is the same as one term between.
func (r relation) over() bool {
	news := false
	for between := range r {
		for a := range r {
			for b := range r {
				if r[a][between] && r[between][b] {
					news = r.set(a, b) || news
				}
			}
		}
	}
	return news
}

// uses makes all the same that have one Op and K and the same parts.
func (r relation) uses(list terms) bool {
	news := false
	for a, x := range list {
		for b, y := range list {
			if x.Op == y.Op && x.K == y.K && r.parts(x.A, y.A) && r.parts(x.B, y.B) {
				news = r.set(a, b) || news
			}
		}
	}
	return news
}

// joinByRelation goes through each two terms, as often as something follows.
func joinByRelation(list terms, same pairs) []int {
	r := make(relation, len(list))
	for i := range r {
		r[i] = make([]bool, len(list))
		r[i][i] = true
	}
	for _, pair := range same {
		r.set(pair.A, pair.B)
	}
	for again := true; again; {
		again = r.uses(list)
		again = r.over() || again
	}
	least := make([]int, len(list))
	for i := range r {
		least[i] = slices.Index(r[i], true)
	}
	return least
}

// anyTerms are terms of few Ops and Ks, so that some are the same.
func anyTerms(r *rand.Rand, count int) terms {
	ops := []int{1, 2, least, greatest}[:1+r.IntN(4)]
	numbers := []int{0, -1, greatest, least}[:1+r.IntN(4)]
	back := 1 + r.IntN(count)
	var list terms
	for i := range count {
		part := func() int { return max(-1, i-r.IntN(back+1)-r.IntN(2)) }
		term := api.Term{Op: pick(r, ops...), K: pick(r, numbers...), A: min(i-1, part()), B: -1}
		if r.IntN(2) == 0 {
			term.A, term.B = pick(r, term.A, -1), min(i-1, part())
		}
		list = append(list, term)
	}
	return list
}

func anyPairs(r *rand.Rand, terms, count int) pairs {
	var list pairs
	for range count {
		list = append(list, api.Pair{A: r.IntN(terms), B: r.IntN(terms)})
	}
	return list
}

func TestJoinExample(t *testing.T) {
	list := terms{leaf(1), leaf(2), uses(3, 0), uses(3, 1)}
	wantJoin(t, list, pairs{{A: 0, B: 1}}, 0, 0, 2, 2)
	wantJoin(t, list, pairs{{A: 1, B: 0}}, 0, 0, 2, 2)
	wantJoin(t, list, nil, 0, 1, 2, 3)
}

func TestJoinByPairs(t *testing.T) {
	list := terms{leaf(1), leaf(2), leaf(3), leaf(4), leaf(5), leaf(6)}
	wantJoin(t, list, pairs{{A: 3, B: 3}, {A: 0, B: 0}}, 0, 1, 2, 3, 4, 5)
	wantJoin(t, list, pairs{{A: 5, B: 2}}, 0, 1, 2, 3, 4, 2)
	wantJoin(t, list, pairs{{A: 5, B: 2}, {A: 2, B: 5}, {A: 5, B: 2}}, 0, 1, 2, 3, 4, 2)
	wantJoin(t, list, pairs{{A: 1, B: 2}, {A: 2, B: 3}, {A: 3, B: 4}}, 0, 1, 1, 1, 1, 5)
	wantJoin(t, list, pairs{{A: 4, B: 5}, {A: 3, B: 4}, {A: 5, B: 1}, {A: 1, B: 3}}, 0, 1, 2, 1, 1, 1)
	wantJoin(t, list, pairs{{A: 5, B: 4}, {A: 3, B: 2}, {A: 4, B: 2}, {A: 3, B: 0}}, 0, 1, 0, 0, 0, 0)
}

// TestJoinByTerms: without a pair, too, what is of one Op and K with the same parts is the same.
func TestJoinByTerms(t *testing.T) {
	wantJoin(t, terms{leaf(1), leaf(1), leaf(2), leaf(1)}, nil, 0, 0, 2, 0)
	wantJoin(t, terms{leaf(1), leaf(1), uses(3, 0, 1), uses(3, 1, 0), uses(4, 2), uses(4, 3)}, nil, 0, 0, 2, 2, 4, 4)
	wantJoin(t, terms{{A: -1, B: -1}, {A: -1, B: -1}, {A: 0, B: 0}, {A: 1, B: 0}}, nil, 0, 0, 2, 2)
	// Another Op, another K, another part, and parts the other way round.
	wantJoin(t, terms{leaf(1), leaf(2), uses(3, 0, 1), uses(4, 0, 1), {Op: 3, K: 1, A: 0, B: 1}, uses(3, 1, 0), uses(3, 0, 0), uses(3, 1, 1)}, nil, 0, 1, 2, 3, 4, 5, 6, 7)
	wantJoin(t, terms{{Op: 1, K: 2, A: -1, B: -1}, {Op: 2, K: 1, A: -1, B: -1}, {Op: 2, K: 2, A: -1, B: -1}, {Op: 1, K: 2, A: -1, B: -1}}, nil, 0, 1, 2, 0)
}

// TestJoinNoPart: a part that is not there is the same as no term, be it the first one or the same as the last.
func TestJoinNoPart(t *testing.T) {
	list := terms{leaf(1), uses(3, 0), uses(3, -1, 0), leaf(3), uses(3, 0, 0), uses(3, -1, 0), uses(3, 0)}
	wantJoin(t, list, nil, 0, 1, 2, 3, 4, 2, 1)
	wantJoin(t, list, pairs{{A: 0, B: 3}}, 0, 1, 2, 0, 4, 2, 1)
	wantJoin(t, terms{leaf(3), uses(3, 0), uses(3, 1)}, nil, 0, 1, 2)
	wantJoin(t, terms{leaf(1), leaf(2), uses(3, -1, 0), uses(3, -1, 1), uses(3, 0), uses(3, 1)}, pairs{{A: 0, B: 1}}, 0, 0, 2, 2, 4, 4)
}

// TestJoinWhatFollows: pairs make users the same, and these their users, also where a pair names terms behind them.
func TestJoinWhatFollows(t *testing.T) {
	list := terms{leaf(1), leaf(2), uses(3, 0, 0), uses(3, 1, 1), uses(4, 2, 0), uses(4, 3, 1), uses(5, 4, 5), uses(5, 5, 4)}
	wantJoin(t, list, pairs{{A: 0, B: 1}}, 0, 0, 2, 2, 4, 4, 6, 6)
	wantJoin(t, list, pairs{{A: 2, B: 3}}, 0, 1, 2, 2, 4, 5, 6, 7)
	wantJoin(t, list, pairs{{A: 5, B: 4}}, 0, 1, 2, 3, 4, 4, 6, 6)
	wantJoin(t, list, pairs{{A: 7, B: 0}, {A: 6, B: 1}}, 0, 1, 2, 3, 4, 5, 1, 0)
	wantJoin(t, list, pairs{{A: 7, B: 0}, {A: 6, B: 1}, {A: 4, B: 5}}, 0, 0, 2, 2, 4, 4, 0, 0)
	// f(x) and g(y) are one, and so are x and y: h of these is the same only then.
	list = terms{leaf(1), leaf(2), uses(3, 0), uses(4, 1), uses(5, 2, 0), uses(5, 3, 1)}
	wantJoin(t, list, pairs{{A: 2, B: 3}}, 0, 1, 2, 2, 4, 5)
	wantJoin(t, list, pairs{{A: 2, B: 3}, {A: 0, B: 1}}, 0, 0, 2, 2, 4, 4)
}

// TestJoinRings: if f of x so many times is x, and so many other times too, then it is so for what divides both.
func TestJoinRings(t *testing.T) {
	for _, c := range []struct{ count, one, other, ring int }{
		{6, 5, 3, 1}, {6, 3, 5, 1}, {13, 8, 12, 4}, {10, 6, 9, 3}, {200, 198, 199, 1}, {200, 144, 89, 1}, {200, 199, 199, 199}, {200, 120, 180, 60}, {200, 1, 199, 1},
	} {
		var want []int
		for i := range c.count {
			want = append(want, i%c.ring)
		}
		wantJoin(t, chainOf(c.count), pairs{{A: c.one, B: 0}, {A: 0, B: c.other}}, want...)
	}
	wantJoin(t, chainOf(6), pairs{{A: 1, B: 4}}, 0, 1, 2, 3, 1, 2)
	wantJoin(t, chainOf(6), pairs{{A: 2, B: 3}}, 0, 1, 2, 2, 2, 2)
}

// TestJoinLong: what follows goes from the first term to the last, one by one.
func TestJoinLong(t *testing.T) {
	list, want := terms{leaf(1), leaf(2)}, []int{0, 0}
	for i := 2; i < 200; i++ {
		list = append(list, uses(3, i-2, i-2))
		want = append(want, i-i%2)
	}
	wantJoin(t, list, pairs{{A: 1, B: 0}}, want...)
	for i := range want {
		want[i] = i
	}
	wantJoin(t, list, nil, want...)
}

func TestJoinNothing(t *testing.T) {
	for _, list := range []terms{nil, {}} {
		for _, same := range []pairs{nil, {}} {
			wantJoin(t, list, same)
		}
		wantNoJoin(t, list, pairs{{}})
	}
	wantJoin(t, terms{leaf(1)}, pairs{}, 0)
	wantJoin(t, terms{leaf(1)}, pairs{{}}, 0)
}

func TestJoinBounds(t *testing.T) {
	ones := slices.Repeat(terms{leaf(1)}, 201)
	wantJoin(t, ones[:200], make(pairs, 200), make([]int, 200)...)
	wantJoin(t, ones[:200], nil, make([]int, 200)...)
	wantJoin(t, ones[:1], make(pairs, 200), 0)
	wantNoJoin(t, ones, nil)
	wantNoJoin(t, ones, make(pairs, 201))
	wantNoJoin(t, ones[:1], make(pairs, 201))
	wantNoJoin(t, ones[:200], make(pairs, 201))
	wantNoJoin(t, nil, make(pairs, 201))
	wantNoJoin(t, make(terms, 5000000), nil)
	wantNoJoin(t, ones[:1], make(pairs, 5000000))
	var last []int
	list := terms{leaf(1)}
	for i := range 200 {
		list = append(list[:i], api.Term{Op: i, A: -1, B: -1})
		last = append(last, i)
	}
	last[199] = 198
	wantJoin(t, list, pairs{{A: 199, B: 198}}, last...)
}

// TestJoinWrongParts tries each place of a term with each number that may not stand there, and those that may.
func TestJoinWrongParts(t *testing.T) {
	numbers := append(slices.Clone(oddNumbers), -2, 3, 6, -1<<32, -1<<32-1)
	for place := range 6 {
		for _, part := range numbers {
			for _, part2 := range []int{-1, part, 0} {
				list := terms{leaf(1), leaf(2), uses(3, 0, 1), uses(3, 1), uses(4, 3, 2), leaf(6)}
				list[place].A, list[place].B = part, part2
				wantEither(t, list, nil)
				list[place].A, list[place].B = part2, part
				wantEither(t, list, nil)
			}
		}
	}
}

func TestJoinWrongPairs(t *testing.T) {
	list := terms{leaf(1), leaf(2), uses(3, 0), uses(3, 1), uses(4, 3, 2)}
	for _, a := range oddNumbers {
		for _, b := range oddNumbers {
			wantEither(t, list, pairs{{A: a, B: b}})
			wantEither(t, list, pairs{{A: 0, B: 1}, {A: a, B: b}, {A: 2, B: 2}})
			wantEither(t, nil, pairs{{A: a, B: b}})
		}
	}
}

// wantEither asks for an error where a number may not be, else for what the relation says.
func wantEither(t *testing.T, list terms, same pairs) {
	t.Helper()
	right := true
	for i, term := range list {
		for _, part := range []int{term.A, term.B} {
			right = right && part >= -1 && part <= i-1
		}
	}
	for _, pair := range same {
		right = right && min(pair.A, pair.B) >= 0 && max(pair.A, pair.B) <= len(list)-1
	}
	if right {
		wantJoin(t, list, same, joinByRelation(list, same)...)
	} else {
		wantNoJoin(t, list, same)
	}
}

// TestJoinAnyOpsAndNumbers: Op and K may be any numbers, and each is another one.
func TestJoinAnyOpsAndNumbers(t *testing.T) {
	var list terms
	for _, op := range oddNumbers[:10] {
		for _, k := range oddNumbers {
			list = append(list, api.Term{Op: op, K: k, A: -1, B: -1})
		}
	}
	var want []int
	for i := range list {
		want = append(want, i)
	}
	wantJoin(t, list, nil, want...)
	list, want = append(list, list[:30]...), append(want, want[:30]...)
	wantJoin(t, list, nil, want...)
}

func TestJoinByRelation(t *testing.T) {
	r := fixed()
	for i := range 6000 {
		count := 1 + r.IntN(14)
		if i%300 == 0 {
			count = 60
		}
		list := anyTerms(r, count)
		same := anyPairs(r, count, r.IntN(5))
		wantJoin(t, list, same, joinByRelation(list, same)...)
		if t.Failed() {
			return
		}
	}
}

// TestJoinGreat: 200 terms and 200 pairs of any kind.
func TestJoinGreat(t *testing.T) {
	r := fixed()
	for range 4 {
		list := anyTerms(r, 200)
		same := anyPairs(r, 200, 200)
		wantJoin(t, list, same, joinByRelation(list, same)...)
		same = anyPairs(r, 200, 3)
		wantJoin(t, list, same, joinByRelation(list, same)...)
	}
}

// TestJoinAnyOrder: in whatever order pairs stand, and however often one asks, the answer is the same.
func TestJoinAnyOrder(t *testing.T) {
	r := fixed()
	for range 40 {
		list := anyTerms(r, 100)
		same := anyPairs(r, 100, 5)
		want, _ := thrift.Join(list, same)
		for range 20 {
			r.Shuffle(len(same), func(i, j int) { same[i], same[j] = same[j], same[i] })
			same[0].A, same[0].B = same[0].B, same[0].A
			wantJoin(t, list, same, want...)
		}
	}
}
