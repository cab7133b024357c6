package path_test

import (
	"math"
	"math/rand"
	"slices"
	"testing"

	"offshoot/api"
	"offshoot/path"
)

// nothing tells that no node of a list has a path, and that no path leads to one, not even the empty one.
func nothing(t *testing.T, l []api.Node) {
	t.Helper()
	for _, at := range places(l) {
		ofHolds(t, l, at, nil)
	}
	for _, p := range [][]int{nil, {}, {0}, {1}, {-1}, {0, 0}, {math.MinInt}, {math.MaxInt}} {
		findHolds(t, l, p, -1)
	}
	hold(t, l)
}

// No nodes at all.
func TestNoNodes(t *testing.T) {
	nothing(t, nil)
	nothing(t, []api.Node{})
}

// A place below 0, at the length and beyond it.
func TestPlacesOutside(t *testing.T) {
	l := []api.Node{{Tag: 7}, {Tag: 1}, {Tag: 5}, {Tag: 1}}
	for _, at := range []int{-1, -4, math.MinInt, 4, 5, 1 << 32, 1<<32 + 1, math.MaxInt} {
		ofHolds(t, l, at, nil)
	}
}

// Lists of which arena.End of the first node is not the length: nodes that lack kids, nodes behind its end, and nodes that may not be, at each place.
func TestListsWrong(t *testing.T) {
	r := rand.New(rand.NewSource(3))
	wrong := bad()
	for range 40 {
		l := grown(r, 1+r.Intn(25)).list()
		for at := range l {
			nothing(t, l[:at])
			m := slices.Clone(l)
			m[at] = wrong[r.Intn(len(wrong))]
			nothing(t, m)
			hold(t, l[at:])
		}
		nothing(t, append(slices.Clone(l), api.Node{Tag: 26}))
		nothing(t, append(slices.Clone(l), l...))
		nothing(t, append(slices.Clone(l), wrong[r.Intn(len(wrong))]))
	}
	for _, x := range wrong {
		nothing(t, []api.Node{x})
		nothing(t, []api.Node{x, {Tag: 1}, {Tag: 1}})
		nothing(t, []api.Node{{Tag: 7}, {Tag: 1}, x})
		nothing(t, []api.Node{{Tag: 7}, {Tag: 1}, {Tag: 1}, x})
	}
}

// Lists by chance, of nodes of all tags: most of them are cut somewhere.
func TestAnyLists(t *testing.T) {
	r := rand.New(rand.NewSource(4))
	for range 3000 {
		var l []api.Node
		for range r.Intn(12) {
			l = append(l, api.Node{Tag: r.Intn(29) - 1, N: r.Intn(4) / 2})
		}
		hold(t, l)
	}
}

// Paths by chance, of numbers that kids may have, and of others: each leads where one who goes down the tree comes to.
func TestAnyPaths(t *testing.T) {
	r := rand.New(rand.NewSource(5))
	for range 100 {
		l := grown(r, 60).list()
		paths := told(l)
		for range 200 {
			p := make([]int, r.Intn(6))
			for i := range p {
				p[i] = r.Intn(5) - r.Intn(2)*r.Intn(2)
			}
			if r.Intn(4) == 0 && len(p) > 0 {
				p[r.Intn(len(p))] = int(r.Uint64()) >> r.Intn(64)
			}
			findHolds(t, l, p, slices.IndexFunc(paths, func(o []int) bool { return slices.Equal(o, p) }))
		}
	}
}

// Paths with the least and the greatest number there is, and others outside, at each node; paths that go on below a node without kids.
func TestPathsOutside(t *testing.T) {
	l := []api.Node{{Tag: 20, N: 2}, {Tag: 23}, {Tag: 2}, {Tag: 20}, {Tag: 20, N: 1}, {Tag: 26}, {Tag: 25}, {Tag: 1}}
	kids := []int{2, 3, 0, 0, 1, 0, 1, 0}
	for at, own := range [][]int{{}, {0}, {0, 0}, {0, 1}, {0, 2}, {0, 2, 0}, {1}, {1, 0}} {
		findHolds(t, l, own, at)
		for _, n := range []int{math.MinInt, math.MinInt + 1, -1 << 32, -256, -2, -1, kids[at], kids[at] + 1, 200, 256, 1 << 32, 1<<32 + 1, math.MaxInt - 1, math.MaxInt} {
			findHolds(t, l, slices.Concat(own, []int{n}), -1)
			findHolds(t, l, slices.Concat(own, []int{n, 0}), -1)
		}
	}
}

// Who changes an answer changes no other one, and not the list; who changes a path, once it was found, finds the same again.
func TestAnswersApart(t *testing.T) {
	l := append(make([]api.Node, 0, 12), api.Node{Tag: 23}, api.Node{Tag: 2}, api.Node{Tag: 20, N: 2}, api.Node{Tag: 26}, api.Node{Tag: 25}, api.Node{Tag: 1, N: 4}, api.Node{Tag: 26})
	was := slices.Clone(l[:12])
	want := [][]int{{}, {0}, {1}, {1, 0}, {1, 1}, {1, 1, 0}, {2}}
	var all [][]int
	for range 2 {
		for at := range l {
			p, _ := path.Of(l, at)
			all = append(all, p)
		}
	}
	for i, p := range all {
		if !slices.Equal(p, want[i%len(want)]) {
			t.Fatalf("%d: %v, once others were changed", i, p)
		}
		for j := range p {
			p[j] = -9
		}
		for j := range 4 {
			_ = append(p, make([]int, j)...)
		}
	}
	for at, p := range want {
		given := append(make([]int, 0, 8), p...)
		findHolds(t, l, given, at)
		for j := range given {
			given[j] = -9
		}
		if !slices.Equal(given[len(given):cap(given)], make([]int, cap(given)-len(given))) {
			t.Fatalf("%v: written to behind its end", p)
		}
		findHolds(t, l, p, at)
	}
	if !slices.Equal(l[:12], was) {
		t.Errorf("%v, not %v", l[:12], was)
	}
	hold(t, l)
}
