package delta_test

import (
	"math"
	"math/rand"
	"slices"
	"testing"

	"offshoot/api"
	"offshoot/delta"
)

// sign is how two numbers stand.
func sign(a, b int) int {
	switch {
	case a < b:
		return -1
	case a > b:
		return 1
	}
	return 0
}

// stand is Compare by the chapters' words: the first place at which the paths are unlike decides, then their lengths; then the operators; then the numbers.
func stand(a, b api.Delta) int {
	for i := range min(len(a.Path), len(b.Path)) {
		if c := sign(a.Path[i], b.Path[i]); c != 0 {
			return c
		}
	}
	for _, c := range []int{sign(len(a.Path), len(b.Path)), sign(a.Op, b.Op), sign(a.N, b.N)} {
		if c != 0 {
			return c
		}
	}
	return 0
}

// compared holds Compare and Same against what they must tell, either way round; neither delta is changed.
func compared(t *testing.T, a, b api.Delta, want int) {
	t.Helper()
	x := api.Delta{Path: roomy(a.Path, 77), Op: a.Op, N: a.N}
	y := api.Delta{Path: roomy(b.Path, 77), Op: b.Op, N: b.N}
	for range 2 {
		if c, d := delta.Compare(x, y), delta.Compare(y, x); c != want || d != -want {
			t.Fatalf("Compare(%v, %v): %d, and turned %d, not %d", a, b, c, d, want)
		}
		if same := want == 0; delta.Same(x, y) != same || delta.Same(y, x) != same {
			t.Fatalf("Same(%v, %v): not %v", a, b, same)
		}
	}
	if !kept(x.Path, a.Path, 77) || !kept(y.Path, b.Path, 77) {
		t.Fatalf("Compare(%v, %v) changed what it was given: %v, %v", a, b, x, y)
	}
}

func TestCompareByHand(t *testing.T) {
	least, greatest := math.MinInt, math.MaxInt
	for _, x := range []struct {
		a, b api.Delta
		want int
	}{
		{api.Delta{}, api.Delta{}, 0},
		{api.Delta{Path: []int{}}, api.Delta{}, 0}, // a list without things is nil or empty
		{api.Delta{Path: []int{1, 2}, Op: 3, N: 4}, api.Delta{Path: []int{1, 2}, Op: 3, N: 4}, 0},
		{api.Delta{N: least}, api.Delta{N: least}, 0},
		{api.Delta{}, api.Delta{Path: []int{0}}, -1},
		{api.Delta{Op: 7, N: 9}, api.Delta{Path: []int{0}, Op: 1}, -1}, // the paths decide ahead of Op and N
		{api.Delta{Path: []int{0, 5}, Op: 7, N: 9}, api.Delta{Path: []int{1}, Op: 1}, -1},
		{api.Delta{Path: []int{2}, Op: 7}, api.Delta{Path: []int{10}, Op: 1}, -1},
		{api.Delta{Path: []int{1}, Op: 7}, api.Delta{Path: []int{1, -1}, Op: 1}, -1},
		{api.Delta{Path: []int{least}, Op: 7}, api.Delta{Path: []int{greatest}, Op: 1}, -1},
		{api.Delta{Op: 1, N: 19}, api.Delta{Op: 2, N: -5}, -1}, // Op decides ahead of N
		{api.Delta{Path: []int{3}, Op: 1, N: 19}, api.Delta{Path: []int{3}, Op: 2, N: 12}, -1},
		{api.Delta{Op: 2}, api.Delta{Op: 10}, -1},
		{api.Delta{Op: -1}, api.Delta{}, -1},
		{api.Delta{Op: least, N: greatest}, api.Delta{Op: greatest, N: least}, -1}, // no less, told of a difference that goes round
		{api.Delta{Op: 1}, api.Delta{Op: 1<<32 + 1}, -1},
		{api.Delta{Op: 4, N: -1}, api.Delta{Op: 4}, -1},
		{api.Delta{Op: 4}, api.Delta{Op: 4, N: 1}, -1},
		{api.Delta{Op: 4, N: 2}, api.Delta{Op: 4, N: 10}, -1},
		{api.Delta{Op: 4, N: least}, api.Delta{Op: 4, N: greatest}, -1},
		{api.Delta{Op: 4, N: -2}, api.Delta{Op: 4, N: greatest}, -1},
		{api.Delta{Path: []int{0, 1}, Op: 4, N: 1 << 32}, api.Delta{Path: []int{0, 1}, Op: 4, N: 1<<32 + 1}, -1},
	} {
		compared(t, x.a, x.b, x.want)
	}
}

// One order of many deltas: as the chapter's words have it, it is turned either way round, holds through a third one, and 0 is told just of alike ones, and Same just of these.
func TestOneOrder(t *testing.T) {
	var all []api.Delta
	for _, path := range [][]int{nil, {0}, {0, 0}, {0, 10}, {0, 2}, {1}, {199}, {-1}, {math.MinInt}, {math.MaxInt, 3}} {
		for _, op := range []int{0, 1, 2, 7, 10, math.MinInt, math.MaxInt} {
			for _, n := range []int{0, 1, 2, 10, -1, math.MinInt, math.MaxInt} {
				all = append(all, api.Delta{Path: path, Op: op, N: n})
			}
		}
	}
	rand.New(rand.NewSource(7)).Shuffle(len(all), func(i, j int) { all[i], all[j] = all[j], all[i] })
	for i, a := range all {
		for j, b := range all {
			compared(t, a, b, stand(a, b))
			if same := i == j; delta.Same(a, b) != same || (delta.Compare(a, b) == 0) != same {
				t.Fatalf("%v, %v: not %v", a, b, same)
			}
		}
	}
	slices.SortFunc(all, delta.Compare)
	for i, a := range all { // in one row, all of them: so what stands ahead of a third one stands ahead of those behind it
		for j, b := range all {
			compared(t, a, b, sign(i, j))
		}
	}
}

// Deltas by chance, most of which are alike but for one of their numbers, or one more of them.
func TestCompareAny(t *testing.T) {
	r := rand.New(rand.NewSource(8))
	number := func() int { return int(r.Uint64()) >> r.Intn(64) }
	for range 5000 {
		a := api.Delta{Path: make([]int, r.Intn(35)), Op: number(), N: number()}
		for i := range a.Path {
			a.Path[i] = number()
		}
		compared(t, a, a, 0)
		b := api.Delta{Path: slices.Clone(a.Path), Op: a.Op, N: a.N}
		compared(t, a, b, 0)
		switch r.Intn(5) {
		case 0:
			b.N = number()
		case 1:
			b.Op, b.N = number(), number()
		case 2:
			b.Path = append(b.Path, number())
		case 3:
			b.Path = b.Path[:r.Intn(len(b.Path)+1)]
			b.Op = number()
		case 4:
			for i := range b.Path {
				b.Path[i] += r.Intn(2) * r.Intn(2) * (r.Intn(3) - 1)
			}
		}
		compared(t, a, b, stand(a, b))
	}
}

// Deltas of one program stand in the order of its nodes.
func TestOrderOfNodes(t *testing.T) {
	r := rand.New(rand.NewSource(9))
	for range 20 {
		paths := grown(r, 80).paths(nil)
		for i, a := range paths {
			for j, b := range paths {
				if i != j {
					compared(t, api.Delta{Path: a, Op: 1 + r.Intn(7), N: r.Intn(9)}, api.Delta{Path: b, Op: 1 + r.Intn(7), N: r.Intn(9)}, sign(i, j))
				}
			}
		}
	}
}
