package direct_test

import (
	"math"
	"slices"
	"strings"
	"testing"

	"offshoot/api"
)

// given are so many arguments.
func given(n int) []int { return slices.Repeat([]int{3}, max(n, 0)) }

// wrong is a program that can't be run, whatever it is given: with as many arguments as it has parameters and with others, with fuel that may be and with other fuel.
func wrong(t *testing.T, p api.Program) {
	t.Helper()
	for _, fuel := range []int{0, 1, 10000, -1, 10001, math.MinInt, math.MaxInt} {
		for _, n := range []int{0, 1, 2, 3, min(p.Params, 20)} {
			refused(t, p, given(n), fuel, api.ErrProgram)
		}
		refused(t, p, nil, fuel, api.ErrProgram)
	}
}

// typed is a program that may be.
func typed() api.Program {
	return hand("Set 5 Add Var 0 Var 1", "While Var 2 Block 1 Put 4 Int 1 At 3 Int 0", "Return Var 5")
}

// The variables must be as kinds.Vars asks.
func TestWrongVariables(t *testing.T) {
	p := typed()
	through(t, p, given(2), told{0, 6, 9, []stored{{5, 5, -1, 6}}})
	for _, params := range []int{-1, 3, 4, 7, 8, 12, 13, -2, math.MinInt, math.MaxInt} { // the third one is a truth, and there are seven
		p.Params = params
		wrong(t, p)
	}
	body := nodes("Block 1 Skip")
	for _, typ := range []int{-1, 10, 11, math.MinInt, math.MaxInt, 1 << 32, -1 << 32} {
		for _, n := range []int{1, 2, 12} {
			for _, i := range []int{0, n / 2, n - 1} {
				vars := make([]int, n)
				vars[i] = typ
				wrong(t, api.Program{Vars: vars, Body: body})
				wrong(t, api.Program{Params: n, Vars: vars, Body: body})
			}
		}
	}
	for typ := 1; typ <= 9; typ++ {
		wrong(t, api.Program{Params: 1, Vars: []int{typ}, Body: body})
		through(t, api.Program{Params: 1, Vars: []int{0, typ, 0}, Body: body}, given(1), told{3, 0, 2, nil})
	}
	for _, n := range []int{13, 100, 1 << 16} {
		wrong(t, api.Program{Vars: make([]int, n), Body: body})
		wrong(t, api.Program{Params: n, Vars: make([]int, n), Body: body})
	}
	wrong(t, api.Program{Params: 1, Body: body})
	wrong(t, api.Program{Params: -1, Body: body})
	through(t, api.Program{Body: body}, nil, told{3, 0, 2, nil})
	through(t, api.Program{Params: 12, Vars: make([]int, 12), Body: body}, given(12), told{3, 0, 2, nil})
}

// The body must be the first node, and all below it, a Block, typed.
func TestWrongBody(t *testing.T) {
	p := typed()
	of := func(l []api.Node) api.Program { return api.Program{Params: 2, Vars: variables(), Body: l} }
	for n := range p.Body { // one that is cut, and one of which a node may not be
		wrong(t, of(p.Body[:n]))
		for _, x := range []api.Node{{}, {Tag: 27}, {Tag: -1}, {Tag: 1<<32 + 20}, {Tag: math.MinInt}, {Tag: math.MaxInt}, {Tag: 2, N: 2}, {Tag: 3, N: 12}, {Tag: 3, N: -1}, {Tag: 26, N: 1}, {Tag: 20, N: 201}, {Tag: 20, N: -1}} {
			l := slices.Clone(p.Body)
			l[n] = x
			wrong(t, of(l))
		}
	}
	for _, more := range []string{"Skip", "Int 1", "Block 0", "Return Int 1"} {
		wrong(t, of(slices.Concat(p.Body, nodes(more))))
		wrong(t, of(slices.Concat(nodes(more), p.Body)))
	}
	wrong(t, api.Program{})
	wrong(t, of(nil))
	wrong(t, of([]api.Node{}))
	for _, x := range []string{"Skip", "Int 1", "Bool 1", "Var 0", "Return Int 1", "Set 5 Int 1", "Put 4 Int 1 Int 1", "If Bool 1 Block 0 Block 0", "While Bool 1 Block 0"} {
		wrong(t, of(nodes(x))) // no Block
	}
	for _, x := range []string{
		"Int 1", "Bool 1", "Var 0", "Add Int 1 Int 1", "Return Bool 1", "Return Var 2", "Return Var 4", "Return Var 7", "Return At 0 Int 1", "Return At 4 Bool 1", "Return Neg Bool 1", "Return Add Int 1 Bool 0", "Return Not Int 1",
		"Set 5 Bool 1", "Set 2 Int 1", "Set 3 Int 1", "Set 7 Int 1", "Set 2 And Bool 1 Int 1", "Set 2 Eq Int 1 Bool 1", "Put 0 Int 1 Int 1", "Put 7 Int 1 Int 1", "Put 4 Bool 1 Int 1", "Put 4 Int 1 Bool 1",
		"If Int 1 Block 0 Block 0", "If Bool 1 Skip Block 0", "If Bool 1 Block 0 Skip", "While Int 1 Block 0", "While Bool 1 Skip", "While Bool 1 Block 1 Int 1", "Block 2 Skip Int 1",
	} { // not typed
		wrong(t, hand(x))
		wrong(t, hand("Return Int 1", x))
		wrong(t, hand("Skip", "If Bool 0 "+block(x)+" Block 0"))
	}
}

// There must be as many arguments as parameters: not one too few, nor one too many.
func TestWrongArguments(t *testing.T) {
	for params := range 13 {
		p := api.Program{Params: params, Vars: make([]int, 12), Body: nodes("Block 0")}
		for n := range 16 {
			if n == params {
				through(t, p, given(n), told{3, 0, 1, nil})
				continue
			}
			for _, fuel := range []int{0, 1, 10000, -1, 10001, math.MinInt, math.MaxInt} {
				refused(t, p, given(n), fuel, api.ErrTests)
			}
		}
		refused(t, p, given(1<<16), 10, api.ErrTests)
		if params > 0 {
			refused(t, p, nil, 10, api.ErrTests)
		}
	}
}

// Fuel is from 0 to 10000.
func TestWrongFuel(t *testing.T) {
	p := typed()
	for _, fuel := range []int{-1, 10001, -2, 10002, 20000, math.MinInt, math.MinInt + 1, math.MaxInt, math.MaxInt - 1, 1 << 32, -1 << 32, 1<<32 + 1} {
		refused(t, p, given(2), fuel, api.ErrFuel)
		refused(t, p, given(1), fuel, api.ErrTests)
		refused(t, p, given(3), fuel, api.ErrTests)
	}
	ran(t, p, given(2), 0, api.Run{Out: api.Outcome{Kind: 4}}, api.OK)
	ran(t, p, given(2), 10000, api.Run{Out: api.Outcome{Value: 6}, Steps: 9, Events: []api.Event{{Var: 5, At: -1, Value: 6}}}, api.OK)
	ran(t, hand(), given(2), 0, api.Run{Out: api.Outcome{Kind: 4}}, api.OK)
	ran(t, hand(), given(2), 1, api.Run{Out: api.Outcome{Kind: 3}, Steps: 1}, api.OK)
}

// More than 200 nodes, and a depth of more than 30, may be run.
func TestLargeAndDeep(t *testing.T) {
	for _, n := range []int{198, 199, 200} {
		does(t, told{0, n, n + 2, nil}, append(slices.Repeat([]string{"Skip"}, n-1), with("Return Int", n))...)
	}
	for _, n := range []int{26, 27, 28, 29, 30, 31, 100} {
		does(t, told{0, 8 - 16*(n%2), n + 3, nil}, "Return "+strings.Repeat("Neg ", n)+"Int 8")
		does(t, told{0, n, n + 3, nil}, strings.Repeat("Block 1 ", n)+with("Return Int", n))
	}
	full := block(slices.Repeat([]string{"Skip"}, 200)...)
	does(t, told{3, 0, 1 + 20*201, nil}, slices.Repeat([]string{full}, 20)...)
}
