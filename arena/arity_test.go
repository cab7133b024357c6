package arena_test

import (
	"math"
	"testing"

	"offshoot/api"
	"offshoot/arena"
)

// Each tag with the least and the greatest N that it may bear, and with those just outside.
func TestArityEdges(t *testing.T) {
	for _, a := range table() {
		least, most := a.kids, a.kids
		if a.tag == 20 {
			least, most = 0, 200
		}
		asked(t, a.tag, a.least, least)
		asked(t, a.tag, a.most, most)
		if a.tag != 1 {
			asked(t, a.tag, a.least-1, -1)
			asked(t, a.tag, a.most+1, -1)
		}
	}
}

// asked holds Arity against what it must tell.
func asked(t *testing.T, tag, n, want int) {
	t.Helper()
	if k := arena.Arity(api.Node{Tag: tag, N: n}); k != want {
		t.Errorf("Arity of tag %d, N %d: %d, not %d", tag, n, k, want)
	}
}

// Each tag that there is, and many that there are not, with numbers of each size.
func TestArity(t *testing.T) {
	numbers := []int{math.MinInt, math.MinInt + 1, -1 << 32, -256, 255, 256, 257, 1 << 31, 1 << 32, 1<<32 + 1, 1 << 62, math.MaxInt - 1, math.MaxInt}
	for n := -205; n <= 205; n++ {
		numbers = append(numbers, n)
	}
	tags := []int{math.MinInt, -1 << 32, 256, 256 + 1, 1 << 32, 1<<32 + 1, math.MaxInt}
	for tag := -30; tag <= 60; tag++ {
		tags = append(tags, tag)
	}
	for range 2 {
		for _, tag := range tags {
			for _, n := range numbers {
				asked(t, tag, n, arity(api.Node{Tag: tag, N: n}))
			}
		}
	}
}

// The names that the language's tags have in api are those of the table.
func TestArityByName(t *testing.T) {
	for kids, tags := range map[int][]int{
		0: {api.Int, api.Bool, api.Var, api.Block, api.Skip},
		1: {api.At, api.Neg, api.Not, api.Set, api.Return},
		2: {api.Add, api.Sub, api.Mul, api.Div, api.Mod, api.Eq, api.Ne, api.Lt, api.Le, api.Gt, api.Ge, api.And, api.Or, api.Put, api.While},
		3: {api.If},
	} {
		for _, tag := range tags {
			asked(t, tag, 0, kids)
		}
	}
}
