package rules

import "thrift/api"

// Numbered is the rule of that number, and tells whether there is one.
func Numbered(number int) (Rule, bool) {
	if number < 1 || number > api.MaxRules {
		return Rule{}, false
	}
	return table()[number], true
}

// All are the rules, in the order of their numbers.
func All() []Rule {
	list := table()
	return list[1:]
}

// table is the document's, at the same numbers. It stands in a function, since its sides are too many for package level.
func table() [api.MaxRules + 1]Rule {
	a, b, c := Side{Tree: nameA}, Side{Tree: nameB}, Side{Tree: nameC}
	j, k := Number{J: 1}, Number{K: 1}
	return [...]Rule{
		1:  {add(a, b), add(b, a)},
		2:  {add(add(a, b), c), add(a, add(b, c))},
		3:  {add(a, add(b, c)), add(add(a, b), c)},
		4:  {sub(a, b), add(a, scale(just(-1), b))},
		5:  {add(a, scale(just(-1), b)), sub(a, b)},
		6:  {mul(a, b), mul(b, a)},
		7:  {mul(mul(a, b), c), mul(a, mul(b, c))},
		8:  {mul(a, add(b, c)), add(mul(a, b), mul(a, c))},
		9:  {add(mul(a, b), mul(a, c)), mul(a, add(b, c))},
		10: {scale(j, scale(k, a)), scale(Number{Both: 1}, a)},
		11: {scale(just(1), a), a},
		12: {scale(just(0), a), fill(just(0))},
		13: {scale(k, add(a, b)), add(scale(k, a), scale(k, b))},
		14: {add(scale(k, a), scale(k, b)), scale(k, add(a, b))},
		15: {add(a, a), scale(just(2), a)},
		16: {add(a, scale(k, a)), scale(Number{K: 1, Just: 1}, a)},
		17: {sub(a, a), fill(just(0))},
		18: {add(a, fill(just(0))), a},
		19: {mul(a, fill(k)), scale(k, a)},
		20: {scale(j, fill(k)), fill(Number{Both: 1})},
		21: {add(fill(j), fill(k)), fill(Number{J: 1, K: 1})},
		22: {turn(turn(a)), a},
		23: {turn(times(a, b)), times(turn(b), turn(a))},
		24: {times(turn(b), turn(a)), turn(times(a, b))},
		25: {times(times(a, b), c), times(a, times(b, c))},
		26: {times(a, times(b, c)), times(times(a, b), c)},
		27: {turn(add(a, b)), add(turn(a), turn(b))},
		28: {add(turn(a), turn(b)), turn(add(a, b))},
		29: {times(scale(k, a), b), scale(k, times(a, b))},
		30: {times(add(a, b), c), add(times(a, c), times(b, c))},
		31: {add(times(a, c), times(b, c)), times(add(a, b), c)},
		32: {turn(fill(k)), fill(k)},
		33: {turn(scale(k, a)), scale(k, turn(a))},
	}
}

func just(number int) Number {
	return Number{Just: number}
}

func fill(k Number) Side {
	return Side{Op: api.Fill, Number: k}
}

func add(a, b Side) Side {
	return Side{Op: api.Add, Parts: []Side{a, b}}
}

func sub(a, b Side) Side {
	return Side{Op: api.Sub, Parts: []Side{a, b}}
}

func mul(a, b Side) Side {
	return Side{Op: api.Mul, Parts: []Side{a, b}}
}

func scale(k Number, a Side) Side {
	return Side{Op: api.Scale, Number: k, Parts: []Side{a}}
}

func times(a, b Side) Side {
	return Side{Op: api.Times, Parts: []Side{a, b}}
}

func turn(a Side) Side {
	return Side{Op: api.Turn, Parts: []Side{a}}
}
