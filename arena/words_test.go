package arena_test

import (
	"math"
	"math/rand"
	"slices"
	"testing"

	"offshoot/api"
	"offshoot/arena"
)

// ask is a row of the chapter's table: a tag, the least and the greatest N that it may bear, and how many kids it has.
type ask struct {
	tag, least, most, kids int
}

// table is the chapter's table, its numbers written out by hand. How many kids a Block has is not in it.
func table() []ask {
	l := []ask{
		{1, math.MinInt, math.MaxInt, 0}, {2, 0, 1, 0}, {3, 0, 11, 0}, {4, 0, 11, 1}, {5, 0, 0, 1}, {6, 0, 0, 1},
		{20, 0, 200, -1}, {21, 0, 11, 1}, {22, 0, 11, 2}, {23, 0, 0, 3}, {24, 0, 0, 2}, {25, 0, 0, 1}, {26, 0, 0, 0},
	}
	for tag := 7; tag <= 19; tag++ {
		l = append(l, ask{tag, 0, 0, 2})
	}
	return l
}

// arity is Arity by the table.
func arity(x api.Node) int {
	for _, a := range table() {
		switch {
		case a.tag != x.Tag:
		case x.N < a.least || x.N > a.most:
			return -1
		case a.kids < 0:
			return x.N
		default:
			return a.kids
		}
	}
	return -1
}

// tree is a node with its kids.
type tree struct {
	node api.Node
	kids []tree
}

// list is the node, and its kids with all below them.
func (x tree) list() []api.Node {
	l := []api.Node{x.node}
	for _, k := range x.kids {
		l = append(l, k.list()...)
	}
	return l
}

// size is how many nodes it has.
func (x tree) size() int {
	n := 1
	for _, k := range x.kids {
		n += k.size()
	}
	return n
}

// depth is how deep it is.
func (x tree) depth() int {
	most := 0
	for _, k := range x.kids {
		most = max(most, k.depth())
	}
	return most + 1
}

// parse is the tree that stands at a place, by the chapter's words: it goes down from kid to kid. There is none where End must be -1.
func parse(l []api.Node, at int) (tree, bool) {
	if at < 0 || at >= len(l) || arity(l[at]) < 0 {
		return tree{}, false
	}
	x := tree{node: l[at]}
	behind := at + 1
	for range arity(l[at]) {
		k, ok := parse(l, behind)
		if !ok {
			return tree{}, false
		}
		x.kids = append(x.kids, k)
		behind += k.size()
	}
	return x, true
}

// places are all places of a list, and some outside.
func places(l []api.Node) []int {
	at := []int{math.MinInt, math.MinInt + 1, -1 << 32, -len(l) - 1, -len(l), -2, -1}
	for i := range len(l) + 3 {
		at = append(at, i)
	}
	return append(at, len(l)+200, 1<<31, 1<<32, 1<<62, math.MaxInt-1, math.MaxInt)
}

// hold holds End, Kids, Depth and Part against the chapter's words at each place, and told twice; the list stays as it was.
func hold(t *testing.T, l []api.Node) {
	t.Helper()
	was := slices.Clone(l)
	for range 2 {
		for _, at := range places(l) {
			if x, ok := parse(was, at); ok {
				stands(t, l, at, x)
			} else {
				refused(t, l, at)
			}
		}
	}
	if !slices.Equal(l, was) {
		t.Fatalf("%v was changed: %v", was, l)
	}
}

// stands holds End, Kids, Depth and Part of a place against the tree that stands there.
func stands(t *testing.T, l []api.Node, at int, x tree) {
	t.Helper()
	var kids []int
	next := at + 1
	for _, k := range x.kids {
		kids = append(kids, next)
		next += k.size()
	}
	if n := arena.End(l, at); n != next {
		t.Fatalf("End(%v, %d): %d, not %d", l, at, n, next)
	}
	if k := arena.Kids(l, at); !slices.Equal(k, kids) {
		t.Fatalf("Kids(%v, %d): %v, not %v", l, at, k, kids)
	}
	if n := arena.Depth(l, at); n != x.depth() {
		t.Fatalf("Depth(%v, %d): %d, not %d", l, at, n, x.depth())
	}
	if p := arena.Part(l, at); !slices.Equal(p, x.list()) {
		t.Fatalf("Part(%v, %d): %v, not %v", l, at, p, x.list())
	}
}

// refused holds End, Kids, Depth and Part of a place against what they must tell where no whole part stands; there Replace has the list as it is.
func refused(t *testing.T, l []api.Node, at int) {
	t.Helper()
	if n := arena.End(l, at); n != -1 {
		t.Fatalf("End(%v, %d): %d", l, at, n)
	}
	if k := arena.Kids(l, at); len(k) != 0 {
		t.Fatalf("Kids(%v, %d): %v", l, at, k)
	}
	if n := arena.Depth(l, at); n != 0 {
		t.Fatalf("Depth(%v, %d): %d", l, at, n)
	}
	if p := arena.Part(l, at); len(p) != 0 {
		t.Fatalf("Part(%v, %d): %v", l, at, p)
	}
	for _, with := range [][]api.Node{nil, {{Tag: 26}}, {{Tag: 5}, {Tag: 99}}} {
		if n := arena.Replace(l, at, with); !slices.Equal(n, l) {
			t.Fatalf("Replace(%v, %d, %v): %v", l, at, with, n)
		}
	}
}

// grown is a tree by chance, of at most about so many nodes.
func grown(r *rand.Rand, size int) tree {
	l := table()
	a := l[r.Intn(len(l))]
	for size > 4 && a.kids == 0 { // so that most are about as large as they may be
		a = l[r.Intn(len(l))]
	}
	x := tree{node: api.Node{Tag: a.tag, N: number(r, a)}}
	n := a.kids
	if n < 0 {
		n = r.Intn(1 + min(size, 1+r.Intn(12)))
		x.node.N = n
	}
	if n > 0 && size <= n { // no room is left for its kids
		return tree{node: api.Node{Tag: 26}}
	}
	for range n {
		x.kids = append(x.kids, grown(r, (size-1)/n))
	}
	return x
}

// number is a number by chance that a tag may bear.
func number(r *rand.Rand, a ask) int {
	if a.tag == 1 {
		return int(r.Uint64()) >> r.Intn(64)
	}
	return a.least + r.Intn(a.most-a.least+1)
}

// bad are nodes that may not be, those just outside of the table among them.
func bad() []api.Node {
	l := []api.Node{{}, {Tag: 0, N: 1}, {Tag: 27}, {Tag: -1}, {Tag: 1 << 32}, {Tag: 1<<32 + 1}, {Tag: 256 + 5}, {Tag: math.MinInt}, {Tag: math.MaxInt}}
	for _, a := range table() {
		if a.tag != 1 {
			l = append(l, api.Node{Tag: a.tag, N: a.least - 1}, api.Node{Tag: a.tag, N: a.most + 1}, api.Node{Tag: a.tag, N: math.MinInt}, api.Node{Tag: a.tag, N: math.MaxInt}, api.Node{Tag: a.tag, N: 1 << 32})
		}
	}
	return l
}

// chain is a node so many times, and others behind.
func chain(x api.Node, n int, behind ...api.Node) []api.Node {
	return append(slices.Repeat([]api.Node{x}, n), behind...)
}

// block is a Block of so many Skips.
func block(n int) []api.Node {
	return append([]api.Node{{Tag: 20, N: n}}, chain(api.Node{Tag: 26}, n)...)
}
