package path_test

import (
	"math/rand"
	"slices"
	"testing"

	"offshoot/api"
	"offshoot/arena"
	"offshoot/path"
)

// The chapter's example.
func TestExample(t *testing.T) {
	l := []api.Node{{Tag: api.Add}, {Tag: api.Int, N: 1}, {Tag: api.Neg}, {Tag: api.Int, N: 2}}
	for at, want := range [][]int{{}, {0}, {1}, {1, 0}} {
		if p, ok := path.Of(l, at); !ok || !slices.Equal(p, want) {
			t.Errorf("Of at %d: %v, %v", at, p, ok)
		}
		if n := path.Find(l, want); n != at {
			t.Errorf("Find of %v: %d", want, n)
		}
	}
	hold(t, l)
}

// A program, told by hand at each place: kids that are first, in between and last; Blocks without kids, with one, and with many.
func TestByHand(t *testing.T) {
	l := []api.Node{
		{Tag: api.Block, N: 5},
		{Tag: api.While}, {Tag: api.Lt}, {Tag: api.Var, N: 1}, {Tag: api.Int, N: 9},
		{Tag: api.Block, N: 1}, {Tag: api.Put, N: 2}, {Tag: api.Var, N: 1}, {Tag: api.Neg}, {Tag: api.At, N: 2}, {Tag: api.Int},
		{Tag: api.Skip},
		{Tag: api.If}, {Tag: api.Bool, N: 1}, {Tag: api.Block}, {Tag: api.Block, N: 2}, {Tag: api.Skip}, {Tag: api.Skip},
		{Tag: api.Block},
		{Tag: api.Return}, {Tag: api.Int, N: -5},
	}
	for at, want := range [][]int{
		{},
		{0}, {0, 0}, {0, 0, 0}, {0, 0, 1},
		{0, 1}, {0, 1, 0}, {0, 1, 0, 0}, {0, 1, 0, 1}, {0, 1, 0, 1, 0}, {0, 1, 0, 1, 0, 0},
		{1},
		{2}, {2, 0}, {2, 1}, {2, 2}, {2, 2, 0}, {2, 2, 1},
		{3},
		{4}, {4, 0},
	} {
		ofHolds(t, l, at, slices.Concat(make([][]int, at), [][]int{want}))
		findHolds(t, l, want, at)
	}
	for _, p := range [][]int{{5}, {-1}, {4, 1}, {4, 0, 0}, {3, 0}, {2, 1, 0}, {2, 3}, {2, -1}, {0, 1, 1}, {0, 0, 0, 0}, {1, 0}, {0, 2}, {0, 1, 0, 1, 0, 0, 0}} {
		findHolds(t, l, p, -1)
	}
	hold(t, l)
}

// All short lists of some nodes, those that may not be among them: just what the chapter's words say.
func TestShortLists(t *testing.T) {
	nodes := []api.Node{{Tag: 1, N: -7}, {Tag: 5}, {Tag: 7}, {Tag: 23}, {Tag: 20}, {Tag: 20, N: 2}, {Tag: 26, N: 1}, {Tag: 27}}
	var all func(l []api.Node, more int)
	all = func(l []api.Node, more int) {
		hold(t, l)
		if more == 0 {
			return
		}
		for _, x := range nodes {
			all(append(slices.Clone(l), x), more-1)
		}
	}
	all(nil, 4)
}

// Each node has a path, and a path leads to one node; they stand in the order of their paths, and those below a node are just those whose paths begin with its own.
func TestTrees(t *testing.T) {
	r := rand.New(rand.NewSource(1))
	for range 150 {
		l := grown(r, 1+r.Intn(60)).list()
		hold(t, l)
		paths := make([][]int, len(l))
		seen := map[string]bool{}
		for at := range l {
			p, ok := path.Of(l, at)
			if !ok || path.Find(l, p) != at || seen[name(p)] {
				t.Fatalf("at %d of %v: %v, %v, that leads to %d", at, l, p, ok, path.Find(l, p))
			}
			seen[name(p)] = true
			paths[at] = p
		}
		for i, a := range paths {
			end := arena.End(l, i)
			for j, b := range paths {
				if c := path.Compare(a, b); c != sign(i, j) {
					t.Fatalf("of %v at %d and %d: Compare(%v, %v) is %d", l, i, j, a, b, c)
				}
				if begins := len(b) >= len(a) && slices.Equal(a, b[:len(a)]); begins != (j >= i && j < end) {
					t.Fatalf("of %v at %d and %d: %v, %v, and the first one ends at %d", l, i, j, a, b, end)
				}
			}
		}
	}
}

// sign is how two places stand.
func sign(i, j int) int {
	switch {
	case i < j:
		return -1
	case i > j:
		return 1
	}
	return 0
}

// A kid's path is its node's, and its number behind it.
func TestKids(t *testing.T) {
	r := rand.New(rand.NewSource(2))
	for range 200 {
		l := grown(r, 1+r.Intn(120)).list()
		for at := range l {
			own, _ := path.Of(l, at)
			kids := arena.Kids(l, at)
			for n, kid := range kids {
				want := slices.Concat(own, []int{n})
				if p, ok := path.Of(l, kid); !ok || !slices.Equal(p, want) || path.Find(l, want) != kid {
					t.Fatalf("kid %d of %d of %v: %v, not %v", n, at, l, p, want)
				}
			}
			for _, n := range []int{-1, len(kids), len(kids) + 1} {
				findHolds(t, l, slices.Concat(own, []int{n}), -1)
			}
		}
	}
}

// A list of one node: it has the empty path, and there is no other one.
func TestOneNode(t *testing.T) {
	for _, x := range []api.Node{{Tag: 1}, {Tag: 1, N: -1 << 63}, {Tag: 2, N: 1}, {Tag: 3, N: 11}, {Tag: 20}, {Tag: 26}} {
		l := []api.Node{x}
		if p, ok := path.Of(l, 0); !ok || len(p) != 0 || path.Find(l, nil) != 0 || path.Find(l, []int{}) != 0 {
			t.Errorf("%v: %v, %v", x, p, ok)
		}
		for _, p := range [][]int{{0}, {-1}, {1}, {0, 0}} {
			findHolds(t, l, p, -1)
		}
		hold(t, l)
	}
}

// Blocks without kids, with one, and with the most that they may have.
func TestBlocks(t *testing.T) {
	for _, n := range []int{0, 1, 2, 3, 100, 199, 200} {
		l := block(n)
		hold(t, l)
		for i := range n {
			ofHolds(t, l, i+1, slices.Concat(make([][]int, i+1), [][]int{{i}}))
			findHolds(t, l, []int{i}, i+1)
		}
		findHolds(t, l, []int{n}, -1)
	}
	l := []api.Node{{Tag: 20, N: 200}}
	for range 200 {
		l = append(l, block(200)...)
	}
	for _, x := range [][]int{{0, 0}, {0, 199}, {1, 0}, {100, 50}, {199, 0}, {199, 199}} {
		at := 1 + x[0]*201 + 1 + x[1]
		findHolds(t, l, x, at)
		if p, ok := path.Of(l, at); !ok || !slices.Equal(p, x) {
			t.Errorf("at %d: %v, %v", at, p, ok)
		}
	}
	for _, p := range [][]int{{200}, {200, 0}, {199, 200}, {0, 200}, {-1, 0}, {199, 199, 0}} {
		findHolds(t, l, p, -1)
	}
}

// Chains of nodes that go as deep as parts may be nested, down the first kid, the last one, and a single one: each call ends, with what is so.
func TestDeep(t *testing.T) {
	const n = 1 << 16
	leaf, neg, add := api.Node{Tag: 1}, api.Node{Tag: 5}, api.Node{Tag: 7}
	single := append(slices.Repeat([]api.Node{neg}, n), leaf)
	first := append(slices.Repeat([]api.Node{add}, n), slices.Repeat([]api.Node{leaf}, n+1)...) // the second kids stand behind all the first ones
	last := append(slices.Repeat([]api.Node{add, leaf}, n), leaf)
	zeros, ones := make([]int, n), slices.Repeat([]int{1}, n)
	for i, x := range []struct {
		l    []api.Node
		at   int
		path []int
	}{
		{single, 0, nil}, {single, n / 2, zeros[:n/2]}, {single, n, zeros},
		{first, n, zeros}, {first, n - 1, zeros[1:]}, {first, n + 1, slices.Concat(zeros[1:], ones[:1])}, {first, n + n/2, slices.Concat(zeros[n/2:], ones[:1])}, {first, 2 * n, []int{1}},
		{last, 2 * n, ones}, {last, 2*n - 1, slices.Concat(ones[1:], zeros[:1])}, {last, n, ones[:n/2]}, {last, 1, []int{0}},
	} {
		if p, ok := path.Of(x.l, x.at); !ok || !slices.Equal(p, x.path) {
			t.Errorf("%d: %v, %d numbers", i, ok, len(p))
		}
		if at := path.Find(x.l, x.path); at != x.at {
			t.Errorf("%d: %d, not %d", i, at, x.at)
		}
		if at := path.Find(x.l, slices.Concat(x.path, []int{2})); at != -1 {
			t.Errorf("%d: %d, of a number too much", i, at)
		}
		cut := x.l[:len(x.l)-1]
		if p, ok := path.Of(cut, x.at); ok || len(p) != 0 || path.Find(cut, x.path) != -1 {
			t.Errorf("%d: found in a list that is cut", i)
		}
	}
	findHolds(t, []api.Node{neg, leaf}, zeros, -1) // a path far longer than nodes are deep
}
