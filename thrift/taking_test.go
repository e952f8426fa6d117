package thrift_test

import (
	"maps"
	"math/big"
	"slices"

	"thrift/api"
)

// takenNode has places in the list as its parts.
type takenNode struct {
	op, k, rows, cols int
	parts             []int
}

// taking is a second way to take down: a plain list, in which whatever is looked for is found by going through all of it.
type taking struct {
	nodes []takenNode
	same  []int // by place: the least one that is the same
	last  int
}

// way is what the names of a left side stand for: classes, told by their least places, and numbers.
type way struct {
	classes, numbers map[string]int
}

func takeDown(g nodes) *taking {
	t := &taking{}
	places := map[int]int{}
	var take func(at int) int
	take = func(at int) int {
		if place, ok := places[at]; ok {
			return place
		}
		n := g[at]
		node := takenNode{op: n.Op, k: n.K, rows: n.Rows, cols: n.Cols}
		switch n.Op {
		case api.Scale, api.Turn:
			node.parts = []int{take(n.A)}
		case api.Add, api.Sub, api.Mul, api.Times:
			node.parts = []int{take(n.A), take(n.B)}
		}
		places[at] = t.put(node)
		return places[at]
	}
	t.last = take(len(g) - 1)
	return t
}

func (t *taking) copy() *taking {
	return &taking{slices.Clone(t.nodes), slices.Clone(t.same), t.last}
}

// alike asks whether two nodes are of one Op, K and shape, with parts that are the same.
func (t *taking) alike(x, y takenNode) bool {
	return x.op == y.op && x.k == y.k && x.rows == y.rows && x.cols == y.cols &&
		slices.EqualFunc(x.parts, y.parts, func(a, b int) bool { return t.same[a] == t.same[b] })
}

func (t *taking) find(node takenNode) int {
	return slices.IndexFunc(t.nodes, func(other takenNode) bool { return t.alike(node, other) })
}

func (t *taking) put(node takenNode) int {
	if place := t.find(node); place >= 0 {
		return place
	}
	t.nodes, t.same = append(t.nodes, node), append(t.same, len(t.same))
	return len(t.nodes) - 1
}

func (t *taking) join(a, b int) bool {
	low, high := min(t.same[a], t.same[b]), max(t.same[a], t.same[b])
	for i := range t.same {
		if t.same[i] == high {
			t.same[i] = low
		}
	}
	return low != high
}

// follow joins, as long as it finds some, each two nodes that are alike.
func (t *taking) follow() {
	for again := true; again; {
		again = false
		for a, x := range t.nodes {
			for b, y := range t.nodes[:a] {
				if t.same[a] != t.same[b] && t.alike(x, y) {
					again = t.join(a, b) || again
				}
			}
		}
	}
}

// firsts are the places that count: those of nodes that no node ahead of them is like.
func (t *taking) firsts() []int {
	var list []int
	for place, node := range t.nodes {
		if t.find(node) == place {
			list = append(list, place)
		}
	}
	return list
}

// ways goes on with those found so far, in each way in which a class is the pattern.
func (t *taking) ways(p pattern, class int, firsts []int, sofar []way) []way {
	var list []way
	if len(p.in) == 0 {
		for _, w := range sofar {
			if known, ok := w.classes[p.word]; !ok || known == class {
				more := way{maps.Clone(w.classes), w.numbers}
				more.classes[p.word] = class
				list = append(list, more)
			}
		}
		return list
	}
	number, parts := p.sides()
	for _, place := range firsts {
		node := t.nodes[place]
		if t.same[place] != class || node.op != opOf[p.word] {
			continue
		}
		fit := sofar
		if number != "" {
			fit = withNumber(number, node.k, sofar)
		}
		for i, part := range parts {
			fit = t.ways(part, t.same[node.parts[i]], firsts, fit)
		}
		list = append(list, fit...)
	}
	return list
}

func withNumber(word string, k int, sofar []way) []way {
	var list []way
	for _, w := range sofar {
		more := way{w.classes, maps.Clone(w.numbers)}
		if fitsNumber(word, k, names{numbers: more.numbers}) {
			list = append(list, more)
		}
	}
	return list
}

// makes takes a pattern down; rows and cols are those of what it was made of.
func (t *taking) makes(p pattern, w way, rows, cols int) int {
	if p.word == "0" {
		return t.put(takenNode{op: api.Fill, rows: rows, cols: cols})
	}
	if len(p.in) == 0 {
		return w.classes[p.word]
	}
	number, parts := p.sides()
	node := takenNode{op: opOf[p.word], rows: rows, cols: cols}
	if number != "" {
		node.k = names{numbers: w.numbers}.number(number)
	}
	for _, part := range parts {
		node.parts = append(node.parts, t.makes(part, w, rows, cols))
	}
	if len(node.parts) > 0 {
		a, b := t.nodes[node.parts[0]], t.nodes[node.parts[len(parts)-1]]
		node.rows, node.cols = a.rows, b.cols
		if node.op == api.Turn {
			node.rows, node.cols = a.cols, a.rows
		}
	}
	return t.put(node)
}

// round is what is taken down behind one round more.
func (t *taking) round(rules [34][2]pattern) *taking {
	next, firsts := t.copy(), t.firsts()
	for _, rule := range rules[1:] {
		for class := range t.nodes {
			if t.same[class] != class {
				continue
			}
			for _, w := range t.ways(rule[0], class, firsts, []way{{map[string]int{}, map[string]int{}}}) {
				next.join(class, next.makes(rule[1], w, t.nodes[class].rows, t.nodes[class].cols))
			}
		}
	}
	next.follow()
	return next
}

// costs are those of the cheapest trees by place, worked out in great numbers; nil, where there is none.
func (t *taking) costs() []*big.Int {
	costs := make([]*big.Int, len(t.nodes))
	for again := true; again; {
		again = false
		for place, node := range t.nodes {
			cost, class := t.nodeCost(node), t.same[place]
			for _, part := range node.parts {
				known := costs[t.same[part]]
				if known == nil {
					cost = nil
					break
				}
				cost.Add(cost, known)
			}
			if cost != nil && (costs[class] == nil || cost.Cmp(costs[class]) < 0) {
				costs[class], again = cost, true
			}
		}
	}
	return costs
}

func (t *taking) nodeCost(node takenNode) *big.Int {
	cost := node.rows * node.cols
	switch node.op {
	case api.In:
		cost = 0
	case api.Fill:
		cost = 1
	case api.Times:
		cost *= 2 * t.nodes[node.parts[0]].cols
	}
	return big.NewInt(int64(cost))
}

// has asks whether a graph's last tree, with all its parts, is taken down, and is the same as the first one's.
func (t *taking) has(g nodes) bool {
	var places []int
	for _, n := range g {
		node := takenNode{op: n.Op, k: n.K, rows: n.Rows, cols: n.Cols}
		switch n.Op {
		case api.Scale, api.Turn:
			node.parts = []int{places[n.A]}
		case api.Add, api.Sub, api.Mul, api.Times:
			node.parts = []int{places[n.A], places[n.B]}
		}
		place := t.find(node)
		if place < 0 {
			return false
		}
		places = append(places, place)
	}
	return t.same[places[len(g)-1]] == t.same[t.last]
}

func atMost(cost *big.Int) int {
	if cost.Cmp(big.NewInt(api.MaxCost)) > 0 {
		return api.MaxCost
	}
	return int(cost.Int64())
}

// notedBy works out the note of Optimise by taking down, and all that is taken down at its end.
func notedBy(rules [34][2]pattern, g nodes, rounds, room int) (api.Note, *taking) {
	t := takeDown(g)
	note := api.Note{Before: atMost(treeCost(g, len(g)-1)), Full: len(t.firsts()) > room}
	for !note.Full && note.Rounds < rounds {
		next := t.round(rules)
		if len(next.firsts()) > room {
			note.Full = true
		} else {
			t = next
			note.Rounds++
		}
	}
	note.Count = len(t.firsts())
	note.After = atMost(t.costs()[t.same[t.last]])
	return note, t
}
