package arena_test

import (
	"math/rand"
	"slices"
	"testing"

	"offshoot/api"
	"offshoot/arena"
)

// The chapter's examples.
func TestExamples(t *testing.T) {
	l := []api.Node{{Tag: api.Add}, {Tag: api.Int, N: 1}, {Tag: api.Neg}, {Tag: api.Int, N: 2}}
	if n, k, d := arena.End(l, 0), arena.Kids(l, 0), arena.Depth(l, 0); n != 4 || !slices.Equal(k, []int{1, 2}) || d != 3 {
		t.Errorf("end %d, kids %v, depth %d", n, k, d)
	}
	if n := arena.End(l[:2], 0); n != -1 {
		t.Errorf("of Add, Int 1: end %d", n)
	}
}

// A program, told by hand at each place.
func TestByHand(t *testing.T) {
	l := []api.Node{
		{Tag: api.Block, N: 3},
		{Tag: api.While}, {Tag: api.Lt}, {Tag: api.Var, N: 1}, {Tag: api.Int, N: 9},
		{Tag: api.Block, N: 1}, {Tag: api.Put, N: 2}, {Tag: api.Var, N: 1}, {Tag: api.Neg}, {Tag: api.At, N: 2}, {Tag: api.Int},
		{Tag: api.If}, {Tag: api.Bool, N: 1}, {Tag: api.Block}, {Tag: api.Block, N: 1}, {Tag: api.Skip},
		{Tag: api.Return}, {Tag: api.Int, N: -5},
	}
	for at, x := range []struct {
		end, depth int
		kids       []int
	}{
		{18, 7, []int{1, 11, 16}},
		{11, 6, []int{2, 5}}, {5, 2, []int{3, 4}}, {4, 1, nil}, {5, 1, nil},
		{11, 5, []int{6}}, {11, 4, []int{7, 8}}, {8, 1, nil}, {11, 3, []int{9}}, {11, 2, []int{10}}, {11, 1, nil},
		{16, 3, []int{12, 13, 14}}, {13, 1, nil}, {14, 1, nil}, {16, 2, []int{15}}, {16, 1, nil},
		{18, 2, []int{17}}, {18, 1, nil},
	} {
		if n, d, k := arena.End(l, at), arena.Depth(l, at), arena.Kids(l, at); n != x.end || d != x.depth || !slices.Equal(k, x.kids) {
			t.Errorf("at %d: end %d, depth %d, kids %v", at, n, d, k)
		}
		if p := arena.Part(l, at); !slices.Equal(p, l[at:x.end]) {
			t.Errorf("at %d: %v", at, p)
		}
	}
	hold(t, l)
}

// All short lists of some nodes, those that may not be among them: at each place just what the chapter's words say.
func TestShortLists(t *testing.T) {
	nodes := []api.Node{{Tag: 1, N: -7}, {Tag: 5}, {Tag: 7}, {Tag: 23}, {Tag: 20}, {Tag: 20, N: 2}, {Tag: 26, N: 1}, {Tag: 27}}
	var all func(l []api.Node, more int)
	all = func(l []api.Node, more int) {
		hold(t, l)
		if more == 0 {
			return
		}
		for _, x := range nodes {
			all(append(slices.Clone(l), x), more-1)
		}
	}
	all(nil, 5)
}

// A node and all below it are the node, and its kids with all below them: so it is at each place, whatever stands ahead and behind.
func TestTrees(t *testing.T) {
	r := rand.New(rand.NewSource(1))
	for range 400 {
		l := grown(r, 1+r.Intn(150)).list()
		hold(t, l)
		ahead, behind := grown(r, 20).list(), grown(r, 20).list()
		hold(t, slices.Concat(ahead, l, behind))
		for at := range l {
			whole := []api.Node{l[at]}
			for _, k := range arena.Kids(l, at) {
				whole = append(whole, arena.Part(l, k)...)
			}
			if p := arena.Part(l, at); !arena.Same(p, whole) || at+len(p) != arena.End(l, at) {
				t.Fatalf("at %d of %v: %v, not %v", at, l, p, whole)
			}
		}
	}
}

// Lists that end ahead of what is below a node, at each place, and nodes that may not be, at each place.
func TestTreesWrong(t *testing.T) {
	r := rand.New(rand.NewSource(2))
	wrong := bad()
	for range 60 {
		l := grown(r, 1+r.Intn(40)).list()
		for at := range l {
			hold(t, l[:at])
			m := slices.Clone(l)
			m[at] = wrong[r.Intn(len(wrong))]
			hold(t, m)
			hold(t, slices.Insert(slices.Clone(l), at, m[at]))
		}
	}
	for _, x := range wrong {
		hold(t, []api.Node{x})
		hold(t, []api.Node{{Tag: 7}, {Tag: 1}, x})
		hold(t, []api.Node{{Tag: 7}, {Tag: 1}, {Tag: 1}, x})
	}
	hold(t, nil)
	hold(t, []api.Node{})
}

// Lists by chance, of nodes of all tags: most of them are cut somewhere.
func TestAnyLists(t *testing.T) {
	r := rand.New(rand.NewSource(3))
	for range 2000 {
		var l []api.Node
		for range r.Intn(30) {
			l = append(l, api.Node{Tag: r.Intn(29) - 1, N: r.Intn(4) / 2})
		}
		hold(t, l)
	}
}

// A Block without kids, with one, with the most that it may have, and with one too few and one more behind.
func TestBlocks(t *testing.T) {
	for _, n := range []int{0, 1, 2, 199, 200} {
		hold(t, block(n))
		hold(t, append(block(n), api.Node{Tag: 26}))
		if n > 0 {
			hold(t, block(n)[:n])
		}
	}
	hold(t, append([]api.Node{{Tag: 20, N: 201}}, chain(api.Node{Tag: 26}, 201)...))
	l := []api.Node{{Tag: 20, N: 200}}
	for range 200 {
		l = append(l, block(200)...)
	}
	if n, d, k := arena.End(l, 0), arena.Depth(l, 0), arena.Kids(l, 0); n != 1+200*201 || d != 3 || len(k) != 200 || k[0] != 1 || k[199] != 1+199*201 {
		t.Errorf("end %d, depth %d, %d kids", n, d, len(k))
	}
}

// Nodes far deeper than a program may have them, down the first kid, the last one, and both: each call ends, with what is so.
func TestDeep(t *testing.T) {
	const n = 1 << 20
	leaf := api.Node{Tag: 1}
	both := chain(api.Node{Tag: 7}, n, chain(leaf, n+1)...) // the second kids stand behind all the first ones
	var last []api.Node
	for range n {
		last = append(last, api.Node{Tag: 7}, leaf)
	}
	last = append(last, leaf)
	for i, x := range []struct {
		l    []api.Node
		kids []int
	}{
		{chain(api.Node{Tag: 5}, n, leaf), []int{1}},
		{both, []int{1, 2 * n}},
		{last, []int{1, 2}},
	} {
		if e, d, p := arena.End(x.l, 0), arena.Depth(x.l, 0), arena.Part(x.l, 0); e != len(x.l) || d != n+1 || len(p) != len(x.l) {
			t.Errorf("%d: end %d, depth %d, %d nodes", i, e, d, len(p))
		}
		if k := arena.Kids(x.l, 0); !slices.Equal(k, x.kids) {
			t.Errorf("%d: kids %v", i, k)
		}
		refused(t, x.l[:len(x.l)-1], 0)
		if e := arena.Check(x.l); e != api.ErrLarge {
			t.Errorf("%d: %v", i, e)
		}
	}
}

// Who changes an answer changes no other one, and not the list, not even behind its end.
func TestAnswersApart(t *testing.T) {
	l := append(make([]api.Node, 0, 9), api.Node{Tag: 20, N: 2}, api.Node{Tag: 25}, api.Node{Tag: 1, N: 4}, api.Node{Tag: 26})
	was := slices.Clone(l[:9])
	for at := range l {
		part, kids := arena.Part(l, at), arena.Kids(l, at)
		for i := range part {
			part[i] = api.Node{Tag: -9}
		}
		_ = append(part, api.Node{Tag: -9}, api.Node{Tag: -9})
		for i := range kids {
			kids[i] = -9
		}
	}
	if !slices.Equal(l[:9], was) {
		t.Errorf("%v, not %v", l[:9], was)
	}
	hold(t, l)
}
