package thrift_test

import (
	"fmt"
	"strconv"
	"strings"

	"thrift/api"
)

// ruleTable is the document's, word by word: the tests take the rules from here, not from the program.
const ruleTable = `
1 add(a,b) → add(b,a)
2 add(add(a,b),c) → add(a,add(b,c))
3 add(a,add(b,c)) → add(add(a,b),c)
4 sub(a,b) → add(a,scale(-1,b))
5 add(a,scale(-1,b)) → sub(a,b)
6 mul(a,b) → mul(b,a)
7 mul(mul(a,b),c) → mul(a,mul(b,c))
8 mul(a,add(b,c)) → add(mul(a,b),mul(a,c))
9 add(mul(a,b),mul(a,c)) → mul(a,add(b,c))
10 scale(j,scale(k,a)) → scale(j·k,a)
11 scale(1,a) → a
12 scale(0,a) → 0
13 scale(k,add(a,b)) → add(scale(k,a),scale(k,b))
14 add(scale(k,a),scale(k,b)) → scale(k,add(a,b))
15 add(a,a) → scale(2,a)
16 add(a,scale(k,a)) → scale(k+1,a)
17 sub(a,a) → 0
18 add(a,fill(0)) → a
19 mul(a,fill(k)) → scale(k,a)
20 scale(j,fill(k)) → fill(j·k)
21 add(fill(j),fill(k)) → fill(j+k)
22 turn(turn(a)) → a
23 turn(times(a,b)) → times(turn(b),turn(a))
24 times(turn(b),turn(a)) → turn(times(a,b))
25 times(times(a,b),c) → times(a,times(b,c))
26 times(a,times(b,c)) → times(times(a,b),c)
27 turn(add(a,b)) → add(turn(a),turn(b))
28 add(turn(a),turn(b)) → turn(add(a,b))
29 times(scale(k,a),b) → scale(k,times(a,b))
30 times(add(a,b),c) → add(times(a,c),times(b,c))
31 add(times(a,c),times(b,c)) → times(add(a,b),c)
32 turn(fill(k)) → fill(k)
33 turn(scale(k,a)) → scale(k,turn(a))
`

// tree is a node with its parts in it, and none of it shared.
type tree struct {
	op, k, rows, cols int
	parts             []tree
}

func (t tree) String() string {
	return fmt.Sprint(t.op, t.k, t.rows, t.cols, t.parts)
}

// pattern is a side as it is written: a word with what stands in its brackets, or a name or number.
type pattern struct {
	word string
	in   []pattern
}

var opOf = map[string]int{"fill": api.Fill, "add": api.Add, "sub": api.Sub, "mul": api.Mul, "scale": api.Scale, "times": api.Times, "turn": api.Turn}

// writtenRules reads the table: the sides of rule n are at n.
func writtenRules() [34][2]pattern {
	var rules [34][2]pattern
	for _, line := range strings.Split(strings.TrimSpace(ruleTable), "\n") {
		number, sides, _ := strings.Cut(line, " ")
		left, right, _ := strings.Cut(sides, " → ")
		n, _ := strconv.Atoi(number)
		rules[n][0], _ = readPattern(left)
		rules[n][1], _ = readPattern(right)
	}
	return rules
}

func readPattern(text string) (pattern, string) {
	end := strings.IndexAny(text+",", "(),")
	p := pattern{word: text[:end]}
	rest := text[end:]
	if !strings.HasPrefix(rest, "(") {
		return p, rest
	}
	for !strings.HasPrefix(rest, ")") {
		var part pattern
		part, rest = readPattern(rest[1:])
		p.in = append(p.in, part)
	}
	return p, rest[1:]
}

// sides splits what stands in the brackets: the number, if the Op has one, and the trees.
func (p pattern) sides() (string, []pattern) {
	if p.word == "fill" || p.word == "scale" {
		return p.in[0].word, p.in[1:]
	}
	return "", p.in
}

type names struct {
	trees   map[string]tree
	numbers map[string]int
}

// fits asks whether a tree is a pattern, and notes what the names stand for.
func (p pattern) fits(t tree, found names) bool {
	if len(p.in) == 0 {
		known, ok := found.trees[p.word]
		found.trees[p.word] = t
		return !ok || known.String() == t.String()
	}
	number, parts := p.sides()
	if opOf[p.word] != t.op || number != "" && !fitsNumber(number, t.k, found) {
		return false
	}
	for i, part := range parts {
		if !part.fits(t.parts[i], found) {
			return false
		}
	}
	return true
}

func fitsNumber(word string, k int, found names) bool {
	if n, err := strconv.Atoi(word); err == nil {
		return n == k
	}
	known, ok := found.numbers[word]
	found.numbers[word] = k
	return !ok || known == k
}

func (found names) number(word string) int {
	switch word {
	case "j·k":
		return found.numbers["j"] * found.numbers["k"]
	case "j+k":
		return found.numbers["j"] + found.numbers["k"]
	case "k+1":
		return found.numbers["k"] + 1
	}
	if n, err := strconv.Atoi(word); err == nil {
		return n
	}
	return found.numbers[word]
}

// makes is the tree of a pattern; rows and cols are what the whole must have.
func (p pattern) makes(found names, rows, cols int) tree {
	if p.word == "0" {
		return tree{op: api.Fill, rows: rows, cols: cols}
	}
	if len(p.in) == 0 {
		return found.trees[p.word]
	}
	number, parts := p.sides()
	t := tree{op: opOf[p.word]}
	if number != "" {
		t.k = found.number(number)
	}
	for _, part := range parts {
		t.parts = append(t.parts, part.makes(found, rows, cols))
	}
	switch t.op {
	case api.Fill:
		t.rows, t.cols = rows, cols
	case api.Turn:
		t.rows, t.cols = t.parts[0].cols, t.parts[0].rows
	case api.Times:
		t.rows, t.cols = t.parts[0].rows, t.parts[1].cols
	default:
		t.rows, t.cols = t.parts[0].rows, t.parts[0].cols
	}
	return t
}

// grown is the tree of a node; where put is not nil, it stands in the place of the node at.
func grown(g nodes, node, at int, put *tree) tree {
	if node == at && put != nil {
		return *put
	}
	n := g[node]
	t := tree{op: n.Op, k: n.K, rows: n.Rows, cols: n.Cols}
	switch n.Op {
	case api.Scale, api.Turn:
		t.parts = []tree{grown(g, n.A, at, put)}
	case api.Add, api.Sub, api.Mul, api.Times:
		t.parts = []tree{grown(g, n.A, at, put), grown(g, n.B, at, put)}
	}
	return t
}

// laidOut goes through the whole tree, and notes each different one where it ends first.
func laidOut(t tree) nodes {
	var g nodes
	places := map[string]int{}
	var end func(t tree) int
	end = func(t tree) int {
		n := api.Node{Op: t.op, K: t.k, Rows: t.rows, Cols: t.cols}
		for i, part := range t.parts {
			*[]*int{&n.A, &n.B}[i] = end(part)
		}
		place, ok := places[t.String()]
		if !ok {
			place = len(g)
			places[t.String()] = place
			g = append(g, n)
		}
		return place
	}
	end(t)
	return g
}

// stepByTrees is a second Step, for graphs with small trees.
func stepByTrees(g nodes, rule [2]pattern, at int) (nodes, bool) {
	t := grown(g, at, 0, nil)
	found := names{map[string]tree{}, map[string]int{}}
	if !rule[0].fits(t, found) {
		return nil, false
	}
	made := rule[1].makes(found, t.rows, t.cols)
	return laidOut(grown(g, len(g)-1, at, &made)), true
}
