package sites_test

import (
	"math"
	"math/rand"
	"slices"
	"testing"

	"offshoot/api"
	"offshoot/delta"
	"offshoot/sites"
)

// next is the delta that stands just behind one: there is none in between.
func next(x api.Delta) api.Delta {
	switch {
	case x.N < math.MaxInt:
		return api.Delta{Path: x.Path, Op: x.Op, N: x.N + 1}
	case x.Op < math.MaxInt:
		return api.Delta{Path: x.Path, Op: x.Op + 1, N: math.MinInt}
	}
	return api.Delta{Path: slices.Concat(x.Path, []int{math.MinInt}), Op: math.MinInt, N: math.MinInt}
}

// ahead is the delta that stands just ahead of one, if its N is not the least one.
func ahead(x api.Delta) api.Delta { return api.Delta{Path: x.Path, Op: x.Op, N: x.N - 1} }

// place is where a delta stands in a list, by looking at each.
func place(l []api.Delta, x api.Delta) int {
	return slices.IndexFunc(l, func(y api.Delta) bool { return same(x, y) })
}

// far are deltas that stand ahead of most others, or behind them.
func far() []api.Delta {
	least, most := math.MinInt, math.MaxInt
	return []api.Delta{
		{Op: least, N: least}, {Op: least}, {Op: -1}, {}, {Op: most, N: most}, d(1, 1, least), d(least, least, -1), d(5, 0, -1), d(0, 0, 0), d(0, 0, 0, 0, 0, 0),
		d(1, 1, most), d(most, most, most), d(most, most, 200), d(most, most, most, most), {Path: slices.Repeat([]int{0}, 1<<12), Op: 1}, {Path: slices.Repeat([]int{most}, 1<<12), Op: most, N: most},
	}
}

// rising holds Find in a list of which each one stands ahead of the next one: of each, of those just ahead and just behind, and of others.
func rising(t *testing.T, l []api.Delta, others ...api.Delta) {
	t.Helper()
	others = append(far(), others...) // a list of its own: who calls may have handed in a part of l
	for i, x := range l {
		if i > 0 && delta.Compare(l[i-1], x) >= 0 {
			t.Fatalf("%v does not rise at %d", short(l), i)
		}
		found(t, l, x, i)
		others = append(others, next(x))
		if x.N > math.MinInt {
			others = append(others, ahead(x))
		}
	}
	for _, x := range others {
		found(t, l, x, place(l, x))
	}
}

// All of programs by hand and by chance: each one's place, and -1 of those just beside.
func TestFindAll(t *testing.T) {
	r := rand.New(rand.NewSource(5))
	var bodies []tree
	for _, h := range byHand() {
		bodies = append(bodies, h.x)
	}
	for range 15 {
		bodies = append(bodies, typed(r, 40))
	}
	for _, x := range bodies {
		l, e := sites.All(program(x))
		if e != api.OK {
			t.Fatal(e)
		}
		var others []api.Delta
		if len(l) > 0 {
			others = beside(one(r, l...))
		}
		rising(t, l, others...)
	}
}

// Of a list of none, one, two, three, and so on: the first place, the last one, and each in between; -1 of what stands just ahead of each, and just behind.
func TestFindEachLength(t *testing.T) {
	r := rand.New(rand.NewSource(6))
	x := typed(r, 200)
	for len(x.mutants(nil)) < 70 {
		x = typed(r, 200)
	}
	all := x.mutants(nil)
	for n := range 70 {
		l := all[:n]
		rising(t, l, all[n:70]...)
		rising(t, all[70-n:70], all[:70-n]...)
	}
}

// Lists of one delta, with each near it.
func TestFindOne(t *testing.T) {
	l := []api.Delta{{Path: []int{0, 2, 1}, Op: 4, N: 7}}
	found(t, nil, l[0], -1)
	found(t, nil, api.Delta{}, -1)
	found(t, l, api.Delta{Path: []int{0, 2, 1}, Op: 4, N: 7}, 0)
	for _, x := range []api.Delta{
		d(4, 6, 0, 2, 1), d(4, 8, 0, 2, 1), d(3, 7, 0, 2, 1), d(5, 7, 0, 2, 1), d(7, 4, 0, 2, 1), d(4, 7, 0, 2, 0), d(4, 7, 0, 2, 2), d(4, 7, 0, 1, 1), d(4, 7, 1, 2, 1),
		d(4, 7, 0, 2), d(4, 7, 0, 2, 1, 0), d(4, 7, 2, 1), d(4, 7), d(4, -7, 0, 2, 1), d(4, 7+1<<32, 0, 2, 1), d(4+1<<32, 7, 0, 2, 1), d(4, 7, 0, 2, 1+1<<32), {},
	} {
		found(t, l, x, -1)
	}
}

// Lists of deltas that no program has: of any path, operator and number, each just ahead of the next one.
func TestFindStrange(t *testing.T) {
	edge := []int{math.MinInt, math.MinInt + 1, -1, 0, 1, math.MaxInt - 1, math.MaxInt}
	var all []api.Delta
	for _, p := range append([]int{2}, edge...) {
		for _, op := range edge {
			for _, n := range edge {
				all = append(all, d(op, n, p), d(op, n, 0, p))
			}
		}
	}
	for _, n := range edge {
		all = append(all, d(n, n), d(n, 0), d(0, n))
	}
	slices.SortFunc(all, delta.Compare)
	all = slices.CompactFunc(all, same)
	rising(t, all)
	r := rand.New(rand.NewSource(7))
	for range 100 {
		var l, others []api.Delta
		for _, x := range all {
			if r.Intn(20) == 0 {
				l = append(l, x)
			} else if r.Intn(20) == 0 {
				others = append(others, x)
			}
		}
		rising(t, l, others...)
	}
	close := []api.Delta{{Path: []int{3}, Op: 9, N: math.MaxInt - 40}}
	for range 80 {
		close = append(close, next(close[len(close)-1]))
	}
	rising(t, close)
}

// A long list: each one's place, and -1 between any two.
func TestFindLong(t *testing.T) {
	l := make([]api.Delta, 1<<16)
	for i := range l {
		l[i] = d(1+i/2%5, 2*i, i/4096, i/64%64)
	}
	slices.SortFunc(l, delta.Compare)
	for i, x := range l {
		if at := sites.Find(l, x); at != i {
			t.Fatalf("%v: %d, not %d", x, at, i)
		}
		if at := sites.Find(l, next(x)); at != -1 {
			t.Fatalf("%v: %d", next(x), at)
		}
	}
}

// Of any other list: a place at which one that is alike stands, or -1. Where all are alike, where they fall, where they stand by chance.
func TestFindAnyList(t *testing.T) {
	r := rand.New(rand.NewSource(8))
	for range 300 {
		all := append(typed(r, 20).mutants(nil), far()...)
		l := slices.Clone(all[r.Intn(len(all)):])
		switch r.Intn(4) {
		case 0:
			slices.Reverse(l)
		case 1:
			l = slices.Repeat(l[:1], 1+r.Intn(20))
		case 2:
			l = append(l, l...)
			fallthrough
		default:
			r.Shuffle(len(l), func(i, j int) { l[i], l[j] = l[j], l[i] })
		}
		for _, x := range all {
			at := sites.Find(l, x)
			if at != -1 && (at < 0 || at >= len(l) || !same(l[at], x)) {
				t.Fatalf("%v in %v: %d", x, short(l), at)
			}
			found(t, l, x, at)
		}
	}
}
