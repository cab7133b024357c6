package machine_test

import (
	"slices"
	"testing"

	"offshoot/api"
	"offshoot/kinds"
)

// A program of 200 nodes that takes just 10000 units, and one that takes one more.
func TestGreatest(t *testing.T) {
	// Block, Set, Int; 80 times While, Gt, Var, Int, Block, 115 Skips, Set, Sub, Var, Int; While, Gt, Var, Int; 71 Skips; Return, Var.
	skips := slices.Repeat([]tree{skip()}, 115)
	loop := count(80, skips...)
	want := told{0, 0, 10000, []stored{{3, 5, -1, 80}}}
	for i := range 80 {
		want.stored = append(want.stored, stored{3 + 124*(i+1), 5, -1, 79 - i})
	}
	l := slices.Concat(loop, skips[:71], []tree{back(get(5))})
	if p := hand(l...); len(p.Body) != 200 || kinds.Check(p) != api.OK {
		t.Fatalf("%d nodes, %v", len(p.Body), kinds.Check(p))
	}
	does(t, want, l...)
	want.kind = 4
	does(t, want, slices.Concat(loop, skips[:72], []tree{back(get(5))})...)
	want.kind = 3
	does(t, want, slices.Concat(loop, skips[:73])...)
}

// nest holds a program that is too large to be gone through at each fuel against what it must tell at some of them.
func nest(t *testing.T, want told, l ...tree) {
	t.Helper()
	p := hand(l...)
	for _, fuel := range slices.Compact([]int{0, 1, 100, want.steps - 1, want.steps, 10000}) {
		ran(t, p, []int{5, -7}, fuel, want.with(fuel), api.OK)
	}
}

// The deepest nests that there can be, and the deepest ones that can be gone through: each node is entered ahead of all below it.
func TestDeep(t *testing.T) {
	const depth = 1 << 16
	out := told{4, 0, 10000, nil}
	nest(t, out, nested(20, 1, depth, skip()))
	nest(t, out, back(nested(5, 0, depth, num(1))))
	nest(t, out, set(2, nested(6, 0, depth, truth(1))))
	nest(t, out, back(nested(4, 4, depth, num(0))))
	for _, x := range branching() {
		nest(t, out, x.make(depth))
	}
	nest(t, told{0, 7, 10000, nil}, nested(20, 1, 9997, back(num(7))))
	nest(t, told{3, 0, 10000, nil}, nested(20, 1, 9998, skip()))
	nest(t, told{0, -7, 10000, nil}, back(nested(5, 0, 9997, num(7))))
	nest(t, told{0, 7, 9999, nil}, back(nested(5, 0, 9996, num(7))))
	nest(t, told{3, 0, 10000, []stored{{10000, 2, -1, 0}}}, set(2, nested(6, 0, 9997, truth(1))))
	nest(t, told{0, 0, 10000, nil}, back(nested(4, 4, 9997, num(0))))
	nest(t, told{2, 0, 10000, nil}, back(nested(4, 4, 9997, num(8))))
	for _, n := range []int{1, 2, 30, 1000} {
		for _, x := range branching() {
			want := words(variables(), block(x.make(n)), []int{5, -7})
			if want.kind != x.kind || want.value != x.value(n) || want.steps != 1+x.ahead+n*x.each {
				t.Errorf("%d of %v: %v", n, x.make(1).list(), want)
			}
			nest(t, want, x.make(n))
		}
	}
}

// branch is a way to nest nodes of several kids: how such a program ends, and how many units it takes beside the first Block's: some without any nested one, and some for each.
type branch struct {
	make        func(n int) tree
	kind        int
	value       func(n int) int
	ahead, each int
}

// leaning is a tree of which each node has the one below, made by a function.
func leaning(n int, x tree, by func(tree) tree) tree {
	for range n {
		x = by(x)
	}
	return x
}

// branching are the ways.
func branching() []branch {
	yes, ret := truth(1), block(back(num(9)))
	nought := func(int) int { return 0 }
	nine := func(int) int { return 9 }
	return []branch{
		{func(n int) tree { return back(leaning(n, num(0), func(x tree) tree { return of(7, 0, x, num(1)) })) }, 0, func(n int) int { return n }, 2, 2},
		{func(n int) tree { return back(leaning(n, num(0), func(x tree) tree { return of(7, 0, num(1), x) })) }, 0, func(n int) int { return n }, 2, 2},
		{func(n int) tree { return back(leaning(n, num(0), func(x tree) tree { return of(8, 0, num(1), x) })) }, 0, func(n int) int { return n % 2 }, 2, 2},
		{func(n int) tree { return set(2, leaning(n, yes, func(x tree) tree { return of(18, 0, x, yes) })) }, 3, nought, 2, 2},
		{func(n int) tree { return set(2, leaning(n, yes, func(x tree) tree { return of(18, 0, yes, x) })) }, 3, nought, 2, 2},
		{func(n int) tree { return set(2, leaning(n, yes, func(x tree) tree { return of(19, 0, x, truth(0)) })) }, 3, nought, 2, 1},
		{func(n int) tree { return set(2, leaning(n, yes, func(x tree) tree { return of(19, 0, truth(0), x) })) }, 3, nought, 2, 2},
		{func(n int) tree { return leaning(n, ret, func(x tree) tree { return block(choice(yes, x, block())) }) }, 0, nine, 3, 3},
		{func(n int) tree {
			return leaning(n, ret, func(x tree) tree { return block(choice(truth(0), block(), x)) })
		}, 0, nine, 3, 3},
		{func(n int) tree { return leaning(n, ret, func(x tree) tree { return block(of(24, 0, yes, x)) }) }, 0, nine, 3, 3},
		{func(n int) tree { return leaning(n, ret, func(x tree) tree { return block(skip(), x, skip()) }) }, 0, nine, 3, 2},
	}
}

// What is passed over takes no unit, however much it is.
func TestPassedOver(t *testing.T) {
	full := block(slices.Repeat([]tree{skip()}, 200)...)
	large := block(slices.Repeat([]tree{block(slices.Repeat([]tree{full}, 20)...)}, 50)...)
	deep := block(set(5, nested(5, 0, 1<<16, num(1))))
	for _, x := range []tree{large, deep} {
		want := told{4, 0, 10000, nil}
		for i := 0; 9+8*i <= 10000; i++ { // Block; then While, Bool, Block, If, Bool, Block, Set, Var
			want.stored = append(want.stored, stored{9 + 8*i, 1, -1, 5})
		}
		nest(t, want, while(truth(1), choice(truth(1), block(set(1, get(0))), x)))
		nest(t, want, while(truth(1), choice(truth(0), x, block(set(1, get(0))))))
		nest(t, told{0, 6, 5, nil}, of(24, 0, truth(0), x), back(num(6)))
		nest(t, told{0, 6, 7, nil}, choice(truth(1), block(), x), block(), back(num(6)))
	}
	neg := of(12, 0, num(1), nested(5, 0, 1<<16, num(1)))
	nest(t, told{3, 0, 4, []stored{{4, 2, -1, 0}}}, set(2, of(18, 0, truth(0), neg)))
	nest(t, told{3, 0, 4, []stored{{4, 2, -1, 1}}}, set(2, of(19, 0, truth(1), neg)))
	nest(t, told{3, 0, 6, []stored{{4, 2, -1, 1}, {6, 5, -1, 3}}}, set(2, of(19, 0, truth(1), neg)), set(5, num(3)))
}
