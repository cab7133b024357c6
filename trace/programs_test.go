package trace_test

import (
	"math/rand"
	"slices"
	"strconv"
	"strings"

	"offshoot/api"
)

// nodes are those that a text tells, as the chapters do: each one's name, and its number, if that is not 0.
func nodes(text string) []api.Node {
	names := strings.Fields("none Int Bool Var At Neg Not Add Sub Mul Div Mod Eq Ne Lt Le Gt Ge And Or Block Set Put If While Return Skip")
	var l []api.Node
	for _, w := range strings.Fields(text) {
		if n, err := strconv.Atoi(w); err == nil {
			l[len(l)-1].N = n
		} else {
			l = append(l, api.Node{Tag: slices.Index(names, w)})
		}
	}
	return l
}

// block is a text that tells a Block of statements.
func block(l ...string) string {
	return "Block " + strconv.Itoa(len(l)) + " " + strings.Join(l, " ")
}

// hand is a program of these statements: variables 0 and 1 are parameters, 2 and 6 truths, 3 an array of one number, 4 one of eight, and 5 a number.
func hand(l ...string) api.Program {
	return api.Program{Params: 2, Vars: []int{0, 0, 1, 2, 9, 0, 1}, Body: nodes(block(l...))}
}

// one is one of some things, by chance.
func one[T any](r *rand.Rand, l ...T) T { return l[r.Intn(len(l))] }

// argument is one by chance: most are small.
func argument(r *rand.Rand) int { return one(r, 0, 1, 2, 3, 7, -1, -3, 64, -65, number(r)) }

// text is one by chance that tells a number, no deeper than so many nodes.
func text(r *rand.Rand, deep int) string {
	if deep < 2 || r.Intn(4) == 0 {
		return one(r, "Var 0", "Var 1", "Var 5", "Int "+strconv.Itoa(argument(r)))
	}
	return one(r, "At 4 "+text(r, 1), "Neg "+text(r, deep-1), one(r, "Add ", "Sub ", "Mul ", "Div ", "Mod ")+text(r, deep-1)+" "+text(r, deep-1))
}

// condition is a text by chance that tells a truth.
func condition(r *rand.Rand, deep int) string {
	switch {
	case deep < 2 || r.Intn(5) == 0:
		return one(r, "Var 2", "Var 6", "Bool 0", "Bool 1")
	case r.Intn(3) == 0:
		return one(r, "And ", "Or ") + condition(r, deep-1) + " Not " + condition(r, deep-1)
	}
	return one(r, "Eq ", "Ne ", "Lt ", "Le ", "Gt ", "Ge ") + text(r, deep-1) + " " + text(r, deep-1)
}

// statement is a text by chance that tells one.
func statement(r *rand.Rand, deep int) string {
	n := r.Intn(24)
	switch {
	case n == 22:
		return "Skip"
	case n == 23:
		return "Return " + text(r, deep)
	case deep < 2 || n < 8:
		return one(r, one(r, "Set 0 ", "Set 1 ", "Set 5 ")+text(r, deep), one(r, "Set 2 ", "Set 6 ")+condition(r, deep))
	case n < 12:
		return one(r, "Put 3 Int 0 ", "Put 4 Int "+strconv.Itoa(r.Intn(8))+" ", "Put 4 Var 5 ") + text(r, deep)
	case n < 17:
		return "If " + condition(r, deep-1) + " " + grown(r, deep-1) + " " + grown(r, deep-1)
	}
	return "While " + condition(r, deep-1) + " " + grown(r, deep-1)
}

// grown is a text by chance that tells a Block.
func grown(r *rand.Rand, deep int) string {
	var l []string
	for range r.Intn(5) {
		l = append(l, statement(r, deep-1))
	}
	return block(l...)
}

// chance is a program by chance.
func chance(r *rand.Rand) api.Program {
	var l []string
	for range 1 + r.Intn(12) {
		l = append(l, statement(r, 5))
	}
	return hand(l...)
}
