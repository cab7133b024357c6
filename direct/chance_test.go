package direct_test

import (
	"math/rand"

	"offshoot/api"
)

// one is one of some things, by chance.
func one[T any](r *rand.Rand, l ...T) T { return l[r.Intn(len(l))] }

// value is an argument by chance: most are small.
func value(r *rand.Rand) int {
	if r.Intn(6) == 0 {
		return one(r, least, most, least+1, int(r.Uint64()))
	}
	return r.Intn(14) - 3
}

// number is a text by chance that tells a number, no deeper than so many nodes.
func number(r *rand.Rand, deep int) string {
	switch {
	case deep < 2 || r.Intn(4) == 0:
		return one(r, "Var 0", "Var 1", "Var 5", with("Int", value(r)), with("Int", r.Intn(8)))
	case r.Intn(4) == 0:
		return one(r, "At 4 ", "At 4 ", "At 3 ") + place(r, deep-1)
	case r.Intn(8) == 0:
		return "Neg " + number(r, deep-1)
	}
	return one(r, "Add ", "Sub ", "Mul ", "Add ", "Sub ", "Mul ", "Div ", "Mod ") + number(r, deep-1) + " " + number(r, deep-1)
}

// place is a number by chance that arrays mostly have as a place.
func place(r *rand.Rand, deep int) string {
	if r.Intn(6) == 0 {
		return number(r, deep)
	}
	return one(r, "Int 0", "Int 0", "Var 5", with("Int", r.Intn(8)))
}

// condition is a text by chance that tells a truth.
func condition(r *rand.Rand, deep int) string {
	switch {
	case deep < 2 || r.Intn(5) == 0:
		return one(r, "Var 2", "Var 6", "Bool 0", "Bool 1")
	case r.Intn(6) == 0:
		return "Not " + condition(r, deep-1)
	case r.Intn(2) == 0:
		return one(r, "And ", "Or ") + condition(r, deep-1) + " " + condition(r, deep-1)
	}
	return one(r, "Eq ", "Ne ", "Lt ", "Le ", "Gt ", "Ge ") + number(r, deep-1) + " " + number(r, deep-1)
}

// statement is a text by chance that tells one.
func statement(r *rand.Rand, deep int) string {
	switch n := r.Intn(22); {
	case deep < 3 && n < 3:
		return one(r, "Skip", "Return "+number(r, 1))
	case deep < 3 || n < 9:
		return one(r, one(r, "Set 0 ", "Set 1 ", "Set 5 ")+number(r, deep-1), one(r, "Set 2 ", "Set 6 ")+condition(r, deep-1))
	case n < 12:
		return one(r, "Put 4 ", "Put 4 ", "Put 3 ") + place(r, deep-1) + " " + number(r, deep-1)
	case n < 14:
		return "If " + condition(r, deep-1) + " " + grown(r, deep-1) + " " + grown(r, deep-1)
	case n < 16:
		return "While " + condition(r, deep-1) + " " + grown(r, deep-1)
	case n < 17:
		return "Return " + number(r, deep-1)
	case n < 18:
		return grown(r, deep-1)
	}
	return block(count(1+r.Intn(6), statement(r, deep-2))...)
}

// grown is a text by chance that tells a Block.
func grown(r *rand.Rand, deep int) string {
	var l []string
	for range r.Intn(4) {
		l = append(l, statement(r, deep-1))
	}
	return block(l...)
}

// chance is a program by chance.
func chance(r *rand.Rand) api.Program {
	return api.Program{Params: 2, Vars: variables(), Body: nodes(grown(r, 8))}
}
