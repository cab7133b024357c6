package machine_test

import (
	"math"
	"slices"
	"testing"

	"offshoot/api"
)

// args are so many arguments.
func args(n int) []int { return slices.Repeat([]int{3}, max(n, 0)) }

// wrong is a program that can't be run, whatever it is given: with as many arguments as it has parameters and with more and fewer of them, with fuel that may be and with other fuel.
func wrong(t *testing.T, p api.Program) {
	t.Helper()
	for _, fuel := range []int{0, 1, 10000, -1, 10001, math.MinInt, math.MaxInt} {
		for _, n := range []int{0, 1, 2, 12, 13, min(p.Params, 20)} {
			refused(t, p, args(n), fuel, api.ErrProgram)
		}
		refused(t, p, nil, fuel, api.ErrProgram)
	}
}

// typed is one that may be: of two parameters, with a variable of each kind.
func typed() api.Program {
	return hand(set(5, of(7, 0, get(0), get(1))), while(get(2), put(4, num(1), at(3, num(0)))), back(get(5)))
}

// The variables must be as kinds.Vars asks.
func TestWrongVariables(t *testing.T) {
	p := typed()
	for _, params := range []int{-1, 3, 4, 5, 6, 7, 8, 9, 12, 13, -2, math.MinInt, math.MaxInt} { // the third one is a truth, and there are seven
		p.Params = params
		wrong(t, p)
	}
	body := block(skip()).list()
	for _, typ := range []int{-1, 10, 11, -2, math.MinInt, math.MaxInt, 1 << 32, -1 << 32} {
		for n := 1; n <= 12; n++ {
			for _, i := range []int{0, n / 2, n - 1} {
				vars := make([]int, n)
				vars[i] = typ
				wrong(t, api.Program{Vars: vars, Body: body})
				wrong(t, api.Program{Params: n, Vars: vars, Body: body})
			}
		}
	}
	for typ := 1; typ <= 9; typ++ {
		wrong(t, api.Program{Params: 1, Vars: []int{typ}, Body: body})
		wrong(t, api.Program{Params: 2, Vars: []int{0, typ, 0}, Body: body})
		through(t, api.Program{Params: 1, Vars: []int{0, typ, 0}, Body: body}, args(1), told{3, 0, 2, nil})
	}
	for _, n := range []int{13, 14, 100, 1 << 16} {
		wrong(t, api.Program{Vars: make([]int, n), Body: body})
		wrong(t, api.Program{Params: n, Vars: make([]int, n), Body: body})
	}
	wrong(t, api.Program{Params: 1, Body: body})
	wrong(t, api.Program{Params: -1, Body: body})
	wrong(t, api.Program{Params: -1, Vars: []int{0}, Body: body})
	through(t, api.Program{Body: body}, nil, told{3, 0, 2, nil})
	through(t, api.Program{Params: 12, Vars: make([]int, 12), Body: body}, args(12), told{3, 0, 2, nil})
}

// The body must be the first node, and all below it: none, one that is cut, one with more behind may not be.
func TestWrongEnd(t *testing.T) {
	p := typed()
	for n := range p.Body {
		q := p
		q.Body = p.Body[:n]
		wrong(t, q)
	}
	for _, more := range []tree{skip(), num(1), truth(0), block(), back(num(1)), block(skip())} {
		q := p
		q.Body = slices.Concat(p.Body, more.list())
		wrong(t, q)
		q.Body = slices.Concat(more.list(), p.Body)
		wrong(t, q)
	}
	wrong(t, api.Program{})
	wrong(t, api.Program{Body: []api.Node{}})
	wrong(t, api.Program{Params: 2, Vars: variables()})
	for _, n := range []int{1, 2, 199, 200} {
		wrong(t, api.Program{Body: []api.Node{{Tag: 20, N: n}}})
		wrong(t, api.Program{Body: append([]api.Node{{Tag: 20, N: n}}, slices.Repeat([]api.Node{{Tag: 26}}, n-1)...)})
		wrong(t, api.Program{Body: append([]api.Node{{Tag: 20, N: n}}, slices.Repeat([]api.Node{{Tag: 26}}, n+1)...)})
	}
}

// Nodes that may not be, at each place.
func TestWrongNodes(t *testing.T) {
	p := typed()
	for i := range p.Body {
		for _, x := range []api.Node{{}, {Tag: 27}, {Tag: -1}, {Tag: 1<<32 + 20}, {Tag: -20}, {Tag: math.MinInt}, {Tag: math.MaxInt}, {Tag: 2, N: 2}, {Tag: 2, N: -1}, {Tag: 3, N: 12}, {Tag: 3, N: -1}, {Tag: 26, N: 1}, {Tag: 20, N: 201}, {Tag: 20, N: -1}, {Tag: 21, N: 12}} {
			q := p
			q.Body = slices.Clone(p.Body)
			q.Body[i] = x
			wrong(t, q)
		}
	}
	for tag := -1; tag <= 28; tag++ { // a first node that may not be
		for _, n := range []int{-1, 201, math.MinInt, math.MaxInt} {
			wrong(t, api.Program{Vars: []int{0}, Body: []api.Node{{Tag: tag, N: n}}})
			wrong(t, api.Program{Vars: []int{0}, Body: []api.Node{{Tag: 20, N: 1}, {Tag: tag, N: n}}})
		}
	}
	x := block(set(0, num(math.MinInt))).list()
	through(t, api.Program{Vars: []int{0}, Body: x}, nil, told{3, 0, 3, []stored{{3, 0, -1, math.MinInt}}})
}

// The first node must be a Block, and its kind a statement.
func TestWrongKind(t *testing.T) {
	one, yes := num(1), truth(1)
	for _, x := range []tree{
		skip(), one, yes, get(0), get(2), back(one), set(5, one), set(2, yes), put(4, one, one), choice(yes, block(), block()), while(yes), of(5, 0, one), of(7, 0, one, one), of(12, 0, one, one), of(18, 0, yes, yes), at(4, one),
	} { // typed by itself, but no Block
		wrong(t, api.Program{Params: 2, Vars: variables(), Body: x.list()})
	}
	for _, x := range []tree{
		one, yes, get(0), get(2), of(7, 0, one, one), of(6, 0, yes), // no statements
		back(yes), back(get(2)), back(get(4)), back(get(7)), back(get(11)), back(at(0, one)), back(at(2, one)), back(at(7, one)), back(at(4, yes)), back(of(5, 0, yes)), back(of(7, 0, one, yes)), back(of(6, 0, one)),
		set(5, yes), set(2, one), set(3, one), set(7, one), set(11, one), set(5, of(12, 0, yes, yes)), set(2, of(18, 0, yes, one)), set(2, of(12, 0, one, yes)),
		put(0, one, one), put(2, one, yes), put(7, one, one), put(4, yes, one), put(4, one, yes),
		choice(one, block(), block()), choice(yes, skip(), block()), choice(yes, block(), skip()), choice(yes, block(one), block()), choice(yes, block(), block(one)), choice(yes, one, one),
		of(24, 0, one, block()), of(24, 0, yes, skip()), while(yes, one), while(yes, back(yes)),
		block(one), block(skip(), one), block(block(block(yes))),
	} {
		for _, l := range [][]tree{{x}, {skip(), x}, {x, skip()}, {back(one), x}, {back(one), choice(truth(0), block(x), block())}} {
			wrong(t, hand(l...))
		}
	}
}

// More than 200 nodes, and a depth of more than 30, may be run: kinds.Check would let neither.
func TestLargeAndDeep(t *testing.T) {
	for _, n := range []int{198, 199, 200} {
		l := append(slices.Repeat([]tree{skip()}, n-1), back(num(n)))
		through(t, hand(l...), args(2), told{0, n, n + 2, nil})
	}
	for _, n := range []int{27, 28, 29, 30, 31, 40, 100} {
		through(t, hand(back(nested(5, 0, n, num(8)))), args(2), told{0, 8 - 16*(n%2), n + 3, nil})
		through(t, hand(nested(20, 1, n, back(num(n)))), args(2), told{0, n, n + 3, nil})
	}
	full := block(slices.Repeat([]tree{skip()}, 200)...)
	through(t, hand(slices.Repeat([]tree{full}, 40)...), args(2), told{3, 0, 1 + 40*201, nil})
	refused(t, hand(slices.Repeat([]tree{full}, 40)...), args(1), 9, api.ErrTests)
}

// There must be as many arguments as parameters: not one too few, nor one too many.
func TestArguments(t *testing.T) {
	for params := range 13 {
		p := api.Program{Params: params, Vars: make([]int, 12), Body: block().list()}
		for n := range 16 {
			if n == params {
				through(t, p, args(n), told{3, 0, 1, nil})
				continue
			}
			for _, fuel := range []int{0, 1, 10000, -1, 10001, math.MinInt, math.MaxInt} {
				refused(t, p, args(n), fuel, api.ErrTests)
			}
		}
		if params > 0 {
			refused(t, p, nil, 10, api.ErrTests)
			refused(t, p, nil, -1, api.ErrTests)
		} else {
			through(t, p, nil, told{3, 0, 1, nil})
		}
		refused(t, p, args(1<<16), 10, api.ErrTests)
	}
}

// Fuel is from 0 to 10000.
func TestFuel(t *testing.T) {
	p := typed()
	for _, fuel := range []int{-1, 10001, -2, 10002, 20000, math.MinInt, math.MinInt + 1, math.MaxInt, math.MaxInt - 1, 1 << 32, -1 << 32, 1<<32 + 1} {
		refused(t, p, args(2), fuel, api.ErrFuel)
		refused(t, p, args(1), fuel, api.ErrTests)
		refused(t, p, args(3), fuel, api.ErrTests)
	}
	out := api.Run{Out: api.Outcome{Kind: 4}}
	ran(t, p, args(2), 0, out, api.OK)
	out.Steps = 1
	ran(t, p, args(2), 1, out, api.OK)
	for _, fuel := range []int{100, 9999, 10000} {
		ran(t, p, args(2), fuel, api.Run{Out: api.Outcome{Value: 6}, Steps: 9, Events: []api.Event{{Var: 5, At: -1, Value: 6}}}, api.OK)
	}
	ran(t, hand(), args(2), 0, api.Run{Out: api.Outcome{Kind: 4}}, api.OK)
	ran(t, hand(), args(2), 1, api.Run{Out: api.Outcome{Kind: 3}, Steps: 1}, api.OK)
}
