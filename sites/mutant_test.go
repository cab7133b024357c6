package sites_test

import (
	"math"
	"math/rand"
	"slices"
	"testing"

	"offshoot/api"
	"offshoot/delta"
	"offshoot/kinds"
	"offshoot/sites"
)

// holdMutants holds Mutant of each one of all: it is delta.Apply's program, another one than p, and typed, unless it is too deep, or, of 200 nodes, a Not is one too many.
func holdMutants(t *testing.T, x tree) {
	t.Helper()
	p := program(x)
	for _, m := range x.mutants(nil) {
		want, e := told(p, x, m)
		made(t, p, m, want, e)
		q, f := delta.Apply(p, m)
		if e != api.OK || f != api.OK || !alike(q, want) {
			t.Fatalf("%v of %v: %v %v, but applied %v %v", m, short(p.Body), short(want.Body), e, short(q.Body), f)
		}
		stays(t, x, m, q)
	}
}

// stays holds that a mutant is typed, as far as the limits let it be.
func stays(t *testing.T, x tree, m api.Delta, q api.Program) {
	t.Helper()
	y, _ := x.below(m.Path)
	want := api.OK
	switch {
	case slices.Equal(q.Body, x.list()):
		t.Fatalf("%v of %v is no other program", m, short(q.Body))
	case m.Op == 6 && len(x.list()) == 200:
		want = api.ErrLarge
	case m.Op == 6 && len(m.Path)+1+1+y.kids[0].depth() > 30:
		want = api.ErrDeep
	}
	if k, e := kinds.Of(q, 0), kinds.Check(q); k != 2 || e != want {
		t.Fatalf("%v of %v: kind %d, and %v, not %v", m, short(x.list()), k, e, want)
	}
}

// Each mutant of programs by hand, and by chance.
func TestEachMutant(t *testing.T) {
	for _, h := range byHand() {
		holdMutants(t, h.x)
	}
	r := rand.New(rand.NewSource(3))
	for range 60 {
		holdMutants(t, typed(r, 80))
	}
}

// The mutants of the chapter's example, their bodies by hand.
func TestExample(t *testing.T) {
	p := program(byHand()[0].x)
	for _, x := range []struct {
		by   api.Delta
		want tree
	}{
		{d(5, 0, 0), block(of(26, 0))}, {d(7, 0, 0), block(of(25, 0, of(1, 0)))},
		{d(4, -1, 0, 0), block(of(25, 0, of(1, -1)))}, {d(4, 0, 0, 0), block(of(25, 0, of(1, 0)))}, {d(4, 2, 0, 0), block(of(25, 0, of(1, 2)))},
	} {
		made(t, p, x.by, program(x.want), api.OK)
	}
}

// A condition that is negated may become too deep: it is told all the same. One less deep does not.
func TestTooDeep(t *testing.T) {
	for _, x := range []struct{ nots, deep int }{{25, 0}, {26, 0}, {27, 1}} {
		for _, whole := range []tree{
			block(of(24, 0, chain(6, x.nots, of(2, 1)), block())),
			block(of(26, 0), of(23, 0, chain(6, x.nots, of(3, 2)), block(of(25, 0, of(1, 1))), block())),
			block(block(of(24, 0, chain(6, x.nots-1, of(3, 5)), block(of(26, 0)))), of(26, 0)),
		} {
			p, too := program(whole), 0
			holdMutants(t, whole)
			for _, m := range whole.mutants(nil) {
				q, e := sites.Mutant(p, m)
				if e != api.OK {
					t.Fatalf("%v of %v: %v", m, p.Body, e)
				}
				if f := kinds.Check(q); f == api.ErrDeep && m.Op == 6 {
					too++
				} else if f != api.OK {
					t.Fatalf("%v of %v: %v", m, p.Body, f)
				}
			}
			if too != x.deep {
				t.Errorf("%v: %d are too deep, not %d", p.Body, too, x.deep)
			}
		}
	}
}

// Of 200 nodes, a condition that is negated has one more; of 199 it has as many as may be. Both are told.
func TestTooMany(t *testing.T) {
	for _, x := range []struct {
		skips int
		want  api.Errno
	}{{194, api.OK}, {195, api.OK}, {196, api.ErrLarge}} {
		whole := block(append([]tree{of(24, 0, of(2, 0), block())}, slices.Repeat([]tree{of(26, 0)}, x.skips)...)...)
		p := program(whole)
		holdMutants(t, whole)
		q, e := sites.Mutant(p, d(6, 0, 0))
		if e != api.OK || len(q.Body) != len(p.Body)+1 || kinds.Check(q) != x.want {
			t.Errorf("%d nodes: %v, and %d nodes that are %v", len(p.Body), e, len(q.Body), kinds.Check(q))
		}
	}
}

// beside are deltas that differ from one in one thing: the path, the operator or the number.
func beside(x api.Delta) []api.Delta {
	l := []api.Delta{x, {Path: x.Path, Op: x.Op}, {Path: x.Path, N: x.N}, {Op: x.Op, N: x.N}}
	for op := -1; op <= 9; op++ {
		l = append(l, api.Delta{Path: x.Path, Op: op, N: x.N}, api.Delta{Path: x.Path, Op: op})
	}
	for _, op := range []int{math.MinInt, math.MaxInt, x.Op + 8, x.Op + 1<<8, x.Op + 1<<32, -x.Op} {
		l = append(l, api.Delta{Path: x.Path, Op: op, N: x.N})
	}
	for _, n := range []int{x.N - 1, x.N + 1, x.N - 2, x.N + 2, -x.N, x.N + 1<<8, x.N + 1<<32, math.MinInt, math.MaxInt} {
		l = append(l, api.Delta{Path: x.Path, Op: x.Op, N: n})
	}
	for _, n := range []int{0, 1, 2, -1, 200, math.MinInt, math.MaxInt} {
		l = append(l, api.Delta{Path: slices.Concat(x.Path, []int{n}), Op: x.Op, N: x.N}, api.Delta{Path: slices.Concat([]int{n}, x.Path), Op: x.Op, N: x.N})
	}
	if last := len(x.Path) - 1; last >= 0 {
		l = append(l, api.Delta{Path: x.Path[:last], Op: x.Op, N: x.N}, api.Delta{Path: x.Path[1:], Op: x.Op, N: x.N})
		for _, n := range []int{x.Path[last] - 1, x.Path[last] + 1, -x.Path[last] - 1, x.Path[last] + 1<<8, x.Path[last] + 1<<32, math.MinInt, math.MaxInt} {
			l = append(l, api.Delta{Path: slices.Concat(x.Path[:last], []int{n}), Op: x.Op, N: x.N})
		}
	}
	return l
}

// A delta that is none of all, though it be just beside one: ErrDelta, and nothing else is told.
func TestBeside(t *testing.T) {
	r := rand.New(rand.NewSource(4))
	bodies := []tree{block(), block(of(26, 0))}
	for _, h := range byHand() {
		bodies = append(bodies, h.x)
	}
	for range 20 {
		bodies = append(bodies, typed(r, 25))
	}
	for _, x := range bodies {
		p := program(x)
		all := x.mutants(nil)
		for _, m := range append(slices.Clone(all), api.Delta{}, d(5, 0, 0), d(7, 0, 0, 0)) {
			for _, by := range beside(m) {
				want, e := told(p, x, by)
				if is := slices.ContainsFunc(all, func(a api.Delta) bool { return same(a, by) }); is != (e == api.OK) {
					t.Fatalf("%v of %v: %v", by, p.Body, e)
				}
				made(t, p, by, want, e)
			}
		}
	}
}

// What delta.Apply lets, but the catalogue does not: ErrDelta.
func TestNotLet(t *testing.T) {
	x := block(of(21, 0, of(7, 0, of(1, 5), of(3, 0))), of(21, 2, of(18, 0, of(2, 1), of(12, 0, of(3, 0), of(3, 1)))), of(25, 0, of(1, 1)))
	p := program(x)
	for _, by := range []api.Delta{
		d(1, 7, 0, 0), d(4, 5, 0, 0, 0), d(4, 7, 0, 0, 0), d(4, -5, 0, 0, 0), d(3, 18, 1, 0), d(4, 1, 1, 0, 0), d(2, 12, 1, 0, 1),
		d(7, 1, 2), d(7, -1, 2), d(7, 2, 2), d(4, 1, 2, 0), d(4, 3, 2, 0),
	} {
		if _, e := delta.Apply(p, by); e != api.OK {
			t.Fatalf("%v can't be applied: %v", by, e)
		}
		made(t, p, by, api.Program{}, api.ErrDelta)
	}
}

// A path that leads nowhere is ErrDelta, too: from just beside one that leads to a mutant to long ones, and to places below 0.
func TestNowhere(t *testing.T) {
	x := block(of(23, 0, of(2, 1), block(of(25, 0, of(1, 1))), block()), of(25, 0, of(1, 0)))
	p := program(x)
	for _, path := range [][]int{
		{2}, {-1}, {1, 1}, {0, 3}, {0, 0, 0}, {0, 1, 1}, {0, 1, 0, 0, 0}, {0, 2, 0}, {1, -1}, {-1, 0}, {1, 0, 0}, {1, math.MinInt}, {math.MaxInt}, {1 << 32}, {1<<32 + 1}, {1 << 8}, {200}, {-2},
		slices.Repeat([]int{0}, 31), slices.Repeat([]int{0}, 1<<16), slices.Repeat([]int{-1}, 1<<16), slices.Concat([]int{1, 0}, slices.Repeat([]int{0}, 1<<16)),
	} {
		for op := -1; op <= 8; op++ {
			for _, n := range []int{0, 1, -1, 12} {
				made(t, p, api.Delta{Path: path, Op: op, N: n}, api.Program{}, api.ErrDelta)
			}
		}
	}
	made(t, p, d(5, 0, 1), program(block(x.kids[0], of(26, 0))), api.OK)
}

// The zero delta, and others at the first node, are none of all: it is a Block.
func TestZeroDelta(t *testing.T) {
	for _, h := range byHand() {
		p := program(h.x)
		made(t, p, api.Delta{}, api.Program{}, api.ErrDelta)
		for op := 1; op <= 7; op++ {
			for _, n := range []int{-1, 0, 1, 7, 12, 18, 20} {
				made(t, p, api.Delta{Op: op, N: n}, api.Program{}, api.ErrDelta)
			}
		}
	}
}
