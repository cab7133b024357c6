package delta_test

import (
	"math"
	"math/rand"
	"slices"
	"testing"

	"offshoot/api"
	"offshoot/delta"
)

// nowhere tells that no path leads anywhere in a body, whatever the operator is: ErrPath, with a zero program.
func nowhere(t *testing.T, body []api.Node) {
	t.Helper()
	for _, path := range [][]int{nil, {}, {0}, {1}, {0, 0}, {-1}, {math.MinInt}, {math.MaxInt}} {
		for _, op := range []int{0, 1, 2, 3, 4, 5, 6, 7, 8, -1, math.MinInt, math.MaxInt} {
			for _, n := range []int{0, 7, 13, 18} {
				applied(t, api.Program{Params: 1, Vars: []int{0, 3}, Body: body}, api.Delta{Path: path, Op: op, N: n}, api.Program{}, api.ErrPath)
			}
		}
	}
}

// No nodes at all.
func TestNoNodes(t *testing.T) {
	nowhere(t, nil)
	nowhere(t, []api.Node{})
	if q, e := delta.Apply(api.Program{}, api.Delta{}); e != api.ErrPath || !alike(q, api.Program{}) {
		t.Errorf("%v %v", q, e)
	}
}

// Programs whose first node does not end where the list does: nodes that lack kids, nodes behind its end, and nodes that may not be.
func TestNotWhole(t *testing.T) {
	r := rand.New(rand.NewSource(4))
	bad := []api.Node{{}, {Tag: 27}, {Tag: -1}, {Tag: 1 << 32}, {Tag: 2, N: 2}, {Tag: 2, N: -1}, {Tag: 3, N: 12}, {Tag: 7, N: 1}, {Tag: 20, N: 201}, {Tag: 20, N: -1}, {Tag: 21, N: 12}, {Tag: 25, N: 1}, {Tag: 26, N: 1}, {Tag: math.MinInt, N: 1}, {Tag: math.MaxInt}}
	for range 4 {
		for tag := 1; tag <= 26; tag++ {
			l := bearing(r, tag).list()
			for i := range l {
				nowhere(t, l[:i])
				m := slices.Clone(l)
				m[i] = bad[r.Intn(len(bad))]
				nowhere(t, m)
			}
			nowhere(t, slices.Concat(l, []api.Node{{Tag: 26}}))
			nowhere(t, slices.Concat(l, l))
			nowhere(t, slices.Concat(l, bad[:1]))
		}
	}
	for _, x := range bad {
		nowhere(t, []api.Node{x})
	}
}

// Paths that lead nowhere: ErrPath is told ahead of ErrDelta, whatever the operator and its number are.
func TestPathsNowhere(t *testing.T) {
	p := hand()
	for _, path := range [][]int{{3}, {-1}, {200}, {math.MinInt}, {math.MaxInt}, {1 << 32}, {0, 3}, {0, -1}, {0, 0, 2}, {0, 0, 0, 0, 0}, {0, 1, 1}, {0, 1, 0, 2}, {1, 1, 0}, {1, 2}, {2, 1}, {2, 0, 0, 0, 0}, {2, 0, 0, 1, 0}, make([]int, 31), make([]int, 100)} {
		for _, op := range ops() {
			for _, n := range []int{math.MinInt, -1, 0, 1, 7, 12, 18, 26, math.MaxInt} {
				applied(t, p, api.Delta{Path: path, Op: op, N: n}, api.Program{}, api.ErrPath)
			}
		}
	}
	r := rand.New(rand.NewSource(5))
	for range 50 {
		x := grown(r, 60)
		for _, path := range x.paths(nil) {
			y, _ := x.below(path)
			for _, n := range []int{-1, len(y.kids), len(y.kids) + 1, 1<<32 + len(y.kids) - 1, math.MinInt, math.MaxInt} {
				hold(t, x, api.Delta{Path: slices.Concat(path, []int{n}), Op: r.Intn(9), N: r.Intn(20)})
				hold(t, x, api.Delta{Path: slices.Concat(path, []int{n, 0}), Op: r.Intn(9)})
			}
		}
	}
}

// Operators that there are not: ErrDelta at each node, with a zero program.
func TestNoOperator(t *testing.T) {
	r := rand.New(rand.NewSource(6))
	for tag := 1; tag <= 26; tag++ {
		x := bearing(r, tag)
		p := api.Program{Params: 2, Vars: []int{0, 0, 9}, Body: x.list()}
		for _, op := range noOps() {
			for _, n := range numbers() {
				applied(t, p, api.Delta{Op: op, N: n}, api.Program{}, api.ErrDelta)
			}
		}
	}
}

// Operators at tags that they may not change, and numbers just outside of those that they let, told by hand.
func TestWrongByHand(t *testing.T) {
	p := hand()
	for _, d := range []api.Delta{
		{Path: []int{0, 0, 0}, Op: 1, N: 7}, {Path: []int{0, 0, 0}, Op: 3, N: 18}, {Path: []int{0, 0, 0}, Op: 1, N: 13}, // of a Lt
		{Path: []int{0, 1, 0, 1}, Op: 2, N: 12}, {Path: []int{0, 1, 0, 1}, Op: 2, N: 10}, {Path: []int{0, 1, 0, 1}, Op: 4, N: 0}, // of a Div
		{Path: []int{0, 0}, Op: 2, N: 13}, {Path: []int{0, 0}, Op: 1, N: 18}, {Path: []int{0, 0}, Op: 6}, // of an And
		{Path: []int{0, 1, 0, 1}, Op: 1, N: 6}, {Path: []int{0, 1, 0, 1}, Op: 1, N: 12}, {Path: []int{0, 1, 0, 1}, Op: 1}, {Path: []int{0, 1, 0, 1}, Op: 1, N: 18},
		{Path: []int{0, 0, 0}, Op: 2, N: 11}, {Path: []int{0, 0, 0}, Op: 2, N: 18}, {Path: []int{0, 0, 0}, Op: 2}, {Path: []int{0, 0, 0}, Op: 2, N: -1},
		{Path: []int{0, 0}, Op: 3, N: 17}, {Path: []int{0, 0}, Op: 3, N: 20}, {Path: []int{0, 0}, Op: 3}, {Path: []int{0, 0}, Op: 3, N: math.MaxInt},
		{Path: []int{0, 0, 1}, Op: 4, N: 2}, {Path: []int{0, 0, 1}, Op: 4, N: -1}, {Path: []int{0, 0, 1}, Op: 4, N: math.MinInt},
		{Path: []int{0, 0, 0, 0}, Op: 4}, {Path: []int{1, 0, 0}, Op: 4, N: 1}, {Path: []int{0, 2, 0}, Op: 4, N: 1}, {Path: []int{0, 2}, Op: 4, N: 1}, {Op: 4, N: 3}, {Path: []int{0, 2, 1}, Op: 4}, // a variable's number, a Block's, and a Skip's
		{Path: []int{0}, Op: 5, N: 1}, {Path: []int{0}, Op: 5, N: -1}, {Op: 5}, {Path: []int{0, 1}, Op: 5}, {Path: []int{0, 2, 1}, Op: 5}, {Path: []int{0, 0}, Op: 5}, {Path: []int{1, 1}, Op: 5},
		{Path: []int{0}, Op: 6, N: 1}, {Path: []int{1}, Op: 6, N: -1}, {Path: []int{1, 0}, Op: 6}, {Op: 6}, {Path: []int{2}, Op: 6}, {Path: []int{0, 2, 0}, Op: 6},
		{Path: []int{0}, Op: 7}, {Path: []int{1}, Op: 7, N: 1}, {Path: []int{0, 2, 0}, Op: 7}, {Path: []int{2, 0}, Op: 7}, {Op: 7},
	} {
		applied(t, p, d, api.Program{}, api.ErrDelta)
	}
}
