package sites_test

import (
	"math"
	"slices"
	"testing"

	"offshoot/api"
	"offshoot/kinds"
)

// wrong is a program that may not be, and the error that it is.
type wrong struct {
	name string
	p    api.Program
	e    api.Errno
}

// wrongs are programs that may not be: each error, in each of the ways that chapters 8 and 9 name, and some that are wrong in more than one.
func wrongs() []wrong {
	set := of(21, 0, of(1, 3))
	good := block(set, of(25, 0, of(1, 1)))
	with := func(params int, vars []int, x tree) api.Program {
		return api.Program{Params: params, Vars: vars, Body: x.list()}
	}
	return []wrong{
		{"the zero program", api.Program{}, api.ErrEmpty},
		{"no body", api.Program{Params: 1, Vars: []int{0}}, api.ErrEmpty},
		{"no body, and no such variables", api.Program{Params: -1, Vars: []int{77}, Body: []api.Node{}}, api.ErrEmpty},
		{"201 nodes", program(block(append(slices.Repeat([]tree{set}, 99), of(26, 0), of(26, 0))...)), api.ErrLarge},
		{"201 nodes, and no such tag", api.Program{Body: slices.Repeat([]api.Node{{Tag: 27}}, 201)}, api.ErrLarge},
		{"very many nodes", api.Program{Body: slices.Repeat([]api.Node{{Tag: 1}}, 1<<16)}, api.ErrLarge},
		{"no such tag", program(block(set, of(0, 0))), api.ErrTag},
		{"no such tag, and more behind", api.Program{Body: append(good.list(), api.Node{Tag: 27})}, api.ErrTag},
		{"a tag below 0", program(block(set, of(-21, 0))), api.ErrTag},
		{"no such number", program(block(set, of(21, 5, of(2, 2)))), api.ErrTag},
		{"a number too many", program(block(set, of(26, 1))), api.ErrTag},
		{"a node is missing", api.Program{Params: 2, Vars: variables(), Body: good.list()[:4]}, api.ErrForm},
		{"a node too many", api.Program{Params: 2, Vars: variables(), Body: append(good.list(), api.Node{Tag: 26})}, api.ErrForm},
		{"a node too many, and no such variables", api.Program{Params: 9, Body: append(good.list(), api.Node{Tag: 26})}, api.ErrForm},
		{"31 deep", program(block(set, of(25, 0, chain(5, 28, of(1, 0))))), api.ErrDeep},
		{"31 deep, and no such variables", with(3, nil, block(set, of(25, 0, chain(5, 28, of(1, 0))))), api.ErrDeep},
		{"Params below 0", with(-1, []int{0}, good), api.ErrVars},
		{"Params above Vars", with(2, []int{0}, good), api.ErrVars},
		{"13 variables", with(0, make([]int, 13), good), api.ErrVars},
		{"a type below 0", with(0, []int{0, -1}, good), api.ErrVars},
		{"a type of 10", with(0, []int{0, 10}, good), api.ErrVars},
		{"a parameter that is a truth", with(2, []int{0, 1}, good), api.ErrVars},
		{"a parameter that is a truth, and no Block", with(2, []int{0, 1}, set), api.ErrVars},
		{"no Block", program(set), api.ErrKind},
		{"an Int alone", program(of(1, 3)), api.ErrKind},
		{"a Return of a truth", program(block(set, of(25, 0, of(2, 1)))), api.ErrKind},
		{"a number in a Block", program(block(set, of(1, 1))), api.ErrKind},
		{"no such variable", with(0, nil, good), api.ErrKind},
		{"an array that is set", with(0, []int{2}, good), api.ErrKind},
		{"an If of a number", program(block(set, of(23, 0, of(1, 1), block(), block()))), api.ErrKind},
		{"a While of no Block", program(block(set, of(24, 0, of(2, 1), of(26, 0)))), api.ErrKind},
	}
}

// A program that may not be has no mutants, but kinds.Check's error.
func TestWrongAll(t *testing.T) {
	seen := map[api.Errno]bool{}
	for _, w := range wrongs() {
		t.Run(w.name, func(t *testing.T) {
			if e := kinds.Check(w.p); e != w.e {
				t.Fatalf("it is %v", e)
			}
			seen[w.e] = true
			listed(t, w.p, nil, w.e)
		})
	}
	for _, e := range []api.Errno{4, 10, 11, 12, 13, 14, 15} {
		if !seen[e] {
			t.Errorf("%v is not told", e)
		}
	}
}

// Nor can one be made: kinds.Check's error is told ahead of ErrDelta, and of what might be changed there.
func TestWrongMutant(t *testing.T) {
	by := []api.Delta{
		{}, d(5, 0, 0), d(4, 4, 0, 0), d(4, 0, 0), d(5, 0, 1), d(7, 0, 1), d(6, 0, 1), d(1, 8, 0, 0), d(5, 0), d(4, 2), d(0, 0, 0), d(8, 0, 0), d(-1, 0, 0), d(5, 1, 0),
		d(5, 0, 9), d(5, 0, -1), d(5, 0, math.MinInt), d(math.MinInt, math.MinInt, math.MinInt), {Path: slices.Repeat([]int{0}, 1<<16), Op: 5}, {Path: slices.Repeat([]int{-1}, 1<<16), Op: 5},
	}
	for _, w := range wrongs() {
		for _, x := range by {
			made(t, w.p, x, api.Program{}, w.e)
		}
	}
}

// The program beside a wrong one has its mutants: what was wrong is all that was.
func TestBesideWrong(t *testing.T) {
	good := block(of(21, 0, of(1, 3)), of(25, 0, of(1, 1)))
	listed(t, api.Program{Params: 1, Vars: []int{0}, Body: good.list()}, good.mutants(nil), api.OK)
	deep := block(of(21, 0, of(1, 3)), of(25, 0, chain(5, 27, of(1, 0))))
	listed(t, program(deep), deep.mutants(nil), api.OK)
	many := block(append(slices.Repeat([]tree{of(21, 0, of(1, 3))}, 99), of(26, 0))...)
	listed(t, program(many), many.mutants(nil), api.OK)
	vars := api.Program{Params: 12, Vars: make([]int, 12), Body: good.list()}
	listed(t, vars, good.mutants(nil), api.OK)
}
