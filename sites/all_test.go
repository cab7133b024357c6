package sites_test

import (
	"math"
	"math/rand"
	"slices"
	"testing"

	"offshoot/api"
	"offshoot/catalog"
	"offshoot/delta"
	"offshoot/path"
	"offshoot/sites"
)

// d is a delta of an operator, a number, and a path.
func d(op, n int, path ...int) api.Delta { return api.Delta{Path: path, Op: op, N: n} }

// hand is a body, and all its mutants by hand.
type hand struct {
	name string
	x    tree
	want []api.Delta
}

// byHand are bodies in which each tag from 1 to 26 stands.
func byHand() []hand {
	return []hand{
		{"the chapter's example", block(of(25, 0, of(1, 1))), []api.Delta{d(5, 0, 0), d(7, 0, 0), d(4, -1, 0, 0), d(4, 0, 0, 0), d(4, 2, 0, 0)}},
		{"one node", block(), nil},
		{"no choice", block(of(26, 0), block(block(), of(26, 0))), nil},
		{"sums and differences", block(of(21, 0, of(7, 0, of(8, 0, of(3, 0), of(3, 1)), of(5, 0, of(3, 6))))), []api.Delta{
			d(5, 0, 0), d(1, 8, 0, 0), d(1, 9, 0, 0), d(1, 10, 0, 0), d(1, 11, 0, 0), d(1, 7, 0, 0, 0), d(1, 9, 0, 0, 0), d(1, 10, 0, 0, 0), d(1, 11, 0, 0, 0),
		}},
		{"products, parts and rests", block(of(26, 0), of(22, 3, of(9, 0, of(3, 0), of(3, 0)), of(10, 0, of(3, 0), of(11, 0, of(3, 0), of(4, 4, of(1, 2)))))), []api.Delta{
			d(5, 0, 1), d(1, 7, 1, 0), d(1, 8, 1, 0), d(1, 10, 1, 0), d(1, 11, 1, 0), d(1, 7, 1, 1), d(1, 8, 1, 1), d(1, 9, 1, 1), d(1, 11, 1, 1),
			d(1, 7, 1, 1, 1), d(1, 8, 1, 1, 1), d(1, 9, 1, 1, 1), d(1, 10, 1, 1, 1), d(4, -1, 1, 1, 1, 1, 0), d(4, 0, 1, 1, 1, 1, 0), d(4, 1, 1, 1, 1, 1, 0), d(4, 3, 1, 1, 1, 1, 0),
		}},
		{"truths", block(of(21, 2, of(18, 0, of(6, 0, of(12, 0, of(3, 0), of(3, 1))), of(19, 0, of(2, 0), of(17, 0, of(3, 0), of(3, 1)))))), []api.Delta{
			d(5, 0, 0), d(3, 19, 0, 0), d(2, 13, 0, 0, 0, 0), d(2, 14, 0, 0, 0, 0), d(2, 15, 0, 0, 0, 0), d(2, 16, 0, 0, 0, 0), d(2, 17, 0, 0, 0, 0),
			d(3, 18, 0, 0, 1), d(4, 1, 0, 0, 1, 0), d(2, 12, 0, 0, 1, 1), d(2, 13, 0, 0, 1, 1), d(2, 14, 0, 0, 1, 1), d(2, 15, 0, 0, 1, 1), d(2, 16, 0, 0, 1, 1),
		}},
		{"branches", block(of(24, 0, of(2, 1), block(of(23, 0, of(3, 2), block(of(25, 0, of(1, 0))), block()))), of(25, 0, of(3, 0))), []api.Delta{
			d(5, 0, 0), d(6, 0, 0), d(4, 0, 0, 0), d(5, 0, 0, 1, 0), d(6, 0, 0, 1, 0), d(5, 0, 0, 1, 0, 1, 0), d(7, 1, 0, 1, 0, 1, 0), d(4, -1, 0, 1, 0, 1, 0, 0), d(4, 1, 0, 1, 0, 1, 0, 0),
			d(5, 0, 1), d(7, 0, 1), d(7, 1, 1),
		}},
		{"the greatest numbers", block(of(25, 0, of(1, math.MaxInt)), of(25, 0, of(1, math.MinInt))), []api.Delta{
			d(5, 0, 0), d(7, 0, 0), d(7, 1, 0), d(4, math.MinInt, 0, 0), d(4, -1, 0, 0), d(4, 0, 0, 0), d(4, 1, 0, 0), d(4, math.MaxInt-1, 0, 0),
			d(5, 0, 1), d(7, 0, 1), d(7, 1, 1), d(4, math.MinInt+1, 1, 0), d(4, -1, 1, 0), d(4, 0, 1, 0), d(4, 1, 1, 0), d(4, math.MaxInt, 1, 0),
		}},
		{"between tags", block(of(21, 5, of(19, 0, of(13, 0, of(3, 0), of(3, 1)), of(19, 0, of(14, 0, of(3, 0), of(3, 1)), of(19, 0, of(15, 0, of(3, 0), of(3, 1)), of(16, 0, of(3, 0), of(3, 1))))))), []api.Delta{
			d(5, 0, 0), d(3, 18, 0, 0), d(2, 12, 0, 0, 0), d(2, 14, 0, 0, 0), d(2, 15, 0, 0, 0), d(2, 16, 0, 0, 0), d(2, 17, 0, 0, 0),
			d(3, 18, 0, 0, 1), d(2, 12, 0, 0, 1, 0), d(2, 13, 0, 0, 1, 0), d(2, 15, 0, 0, 1, 0), d(2, 16, 0, 0, 1, 0), d(2, 17, 0, 0, 1, 0),
			d(3, 18, 0, 0, 1, 1), d(2, 12, 0, 0, 1, 1, 0), d(2, 13, 0, 0, 1, 1, 0), d(2, 14, 0, 0, 1, 1, 0), d(2, 16, 0, 0, 1, 1, 0), d(2, 17, 0, 0, 1, 1, 0),
			d(2, 12, 0, 0, 1, 1, 1), d(2, 13, 0, 0, 1, 1, 1), d(2, 14, 0, 0, 1, 1, 1), d(2, 15, 0, 0, 1, 1, 1), d(2, 17, 0, 0, 1, 1, 1),
		}},
	}
}

// What is listed by hand is what is told.
func TestByHand(t *testing.T) {
	seen := map[int]bool{}
	for _, h := range byHand() {
		for _, x := range h.x.list() {
			seen[x.Tag] = true
		}
		t.Run(h.name, func(t *testing.T) { listed(t, program(h.x), h.want, api.OK) })
	}
	for tag := 1; tag <= 26; tag++ {
		if !seen[tag] {
			t.Errorf("tag %d is not asked", tag)
		}
	}
}

// Programs by chance, against the chapters' words: each node with each operator and each number.
func TestByChance(t *testing.T) {
	r := rand.New(rand.NewSource(1))
	let := map[int]int{}
	for range 300 {
		x := typed(r, 200)
		want := x.mutants(nil)
		listed(t, program(x), want, api.OK)
		for _, m := range want {
			let[m.Op]++
		}
	}
	for op := 1; op <= 7; op++ {
		if let[op] < 100 {
			t.Errorf("operator %d: %d only", op, let[op])
		}
	}
}

// All are the catalogue's choices of each node in order, each with the node's path; each stands ahead of the next one.
func TestChoices(t *testing.T) {
	r := rand.New(rand.NewSource(2))
	for range 200 {
		p := program(typed(r, 150))
		l, e := sites.All(p)
		if e != api.OK {
			t.Fatalf("%v: %v", p.Body, e)
		}
		next := 0
		for at := range p.Body {
			own, _ := path.Of(p.Body, at)
			for _, c := range catalog.Choices(p.Body, at) {
				if next == len(l) || !slices.Equal(l[next].Path, own) || l[next].Op != c.Op || l[next].N != c.N {
					t.Fatalf("%v: not %v at %d, in %v at %d", p.Body, c, at, l, next)
				}
				next++
			}
		}
		if next != len(l) {
			t.Fatalf("%v: %v is no choice", p.Body, l[next])
		}
		for i, m := range l {
			if i > 0 && delta.Compare(l[i-1], m) >= 0 {
				t.Fatalf("%v: %v stands behind %v", p.Body, m, l[i-1])
			}
			if !catalog.Is(p.Body, path.Find(p.Body, m.Path), m.Op, m.N) {
				t.Fatalf("%v: %v is not let", p.Body, m)
			}
		}
	}
}

// What variables there are, and which are parameters, tells nothing of mutants.
func TestVariables(t *testing.T) {
	x := block(of(21, 0, of(1, 3)), of(25, 0, of(3, 0)))
	want := x.mutants(nil)
	for _, p := range []api.Program{
		{Vars: []int{0}}, {Params: 1, Vars: []int{0}}, {Vars: []int{0, 1, 9}}, {Params: 2, Vars: []int{0, 0, 2}},
		{Vars: slices.Repeat([]int{0}, 12)}, {Params: 12, Vars: slices.Repeat([]int{0}, 12)},
	} {
		p.Body = x.list()
		listed(t, p, want, api.OK)
	}
	listed(t, api.Program{Body: block(of(25, 0, of(1, 1))).list()}, byHand()[0].want, api.OK)
}

// wide is a body of so many nodes: one Block, and the same statement again and again.
func wide(n int, kid tree) tree {
	return block(slices.Repeat([]tree{kid}, (n-1)/len(kid.list()))...)
}

// Programs of the greatest number of nodes and of the greatest depth, with and without choices.
func TestGreatest(t *testing.T) {
	nested := block(of(26, 0))
	for range 28 {
		nested = block(nested)
	}
	for _, x := range []struct {
		name         string
		body         tree
		nodes, depth int
		mutants      int
	}{
		{"one node", block(), 1, 1, 0},
		{"200 nodes, without", wide(200, of(26, 0)), 200, 2, 0},
		{"200 nodes, half of them with", block(append(slices.Repeat([]tree{of(21, 0, of(3, 0))}, 99), of(26, 0))...), 200, 3, 99},
		{"200 nodes, with as many as may be", block(slices.Concat(slices.Repeat([]tree{of(25, 0, of(1, 9))}, 99), []tree{of(26, 0)})...), 200, 3, 99 * 8},
		{"200 nodes, the last one with one", block(slices.Concat(slices.Repeat([]tree{of(26, 0)}, 197), []tree{of(21, 2, of(3, 2))})...), 200, 3, 1},
		{"30 deep, without", nested, 30, 30, 0},
		{"30 deep, with", block(of(25, 0, chain(5, 27, of(1, 0)))), 30, 30, 5},
		{"30 deep, in a condition", block(of(24, 0, chain(6, 27, of(2, 0)), block())), 31, 30, 3},
	} {
		t.Run(x.name, func(t *testing.T) {
			if len(x.body.list()) != x.nodes || x.body.depth() != x.depth {
				t.Fatalf("%d nodes, %d deep", len(x.body.list()), x.body.depth())
			}
			want := x.body.mutants(nil)
			if len(want) != x.mutants {
				t.Fatalf("%d mutants, not %d", len(want), x.mutants)
			}
			listed(t, program(x.body), want, api.OK)
			holdMutants(t, x.body)
			for i, m := range want {
				found(t, want, m, i)
			}
		})
	}
}
