package path_test

import (
	"math"
	"math/rand"
	"slices"
	"strconv"
	"strings"
	"testing"

	"offshoot/api"
	"offshoot/path"
)

// ask is a row of chapter 8's table: a tag, the least and the greatest N that it may bear, and how many kids it has.
type ask struct {
	tag, least, most, kids int
}

// table is chapter 8's table, its numbers written out by hand. How many kids a Block has is not in it.
func table() []ask {
	l := []ask{
		{1, math.MinInt, math.MaxInt, 0}, {2, 0, 1, 0}, {3, 0, 11, 0}, {4, 0, 11, 1}, {5, 0, 0, 1}, {6, 0, 0, 1},
		{20, 0, 200, -1}, {21, 0, 11, 1}, {22, 0, 11, 2}, {23, 0, 0, 3}, {24, 0, 0, 2}, {25, 0, 0, 1}, {26, 0, 0, 0},
	}
	for tag := 7; tag <= 19; tag++ {
		l = append(l, ask{tag, 0, 0, 2})
	}
	return l
}

// arity is how many kids a node has, by the table; -1, if it may not be.
func arity(x api.Node) int {
	for _, a := range table() {
		switch {
		case a.tag != x.Tag:
		case x.N < a.least || x.N > a.most:
			return -1
		case a.kids < 0:
			return x.N
		default:
			return a.kids
		}
	}
	return -1
}

// tree is a node with its kids.
type tree struct {
	node api.Node
	kids []tree
}

// list is the node, and its kids with all below them.
func (x tree) list() []api.Node {
	l := []api.Node{x.node}
	for _, k := range x.kids {
		l = append(l, k.list()...)
	}
	return l
}

// paths are the paths of the node and all below it, as they stand one behind the other, by the chapter's words: a kid's is its node's, and its number behind it.
func (x tree) paths(own []int) [][]int {
	all := [][]int{own}
	for n, k := range x.kids {
		all = append(all, k.paths(slices.Concat(own, []int{n}))...)
	}
	return all
}

// parse is the tree that stands at a place, and the place behind it; there is none where arena.End must be -1.
func parse(l []api.Node, at int) (tree, int, bool) {
	if at >= len(l) || arity(l[at]) < 0 {
		return tree{}, 0, false
	}
	x := tree{node: l[at]}
	behind := at + 1
	for range arity(l[at]) {
		k, next, ok := parse(l, behind)
		if !ok {
			return tree{}, 0, false
		}
		x.kids = append(x.kids, k)
		behind = next
	}
	return x, behind, true
}

// told are the paths of all nodes of a list, as the chapter's words have them: none, if it is not the first node and all below it.
func told(l []api.Node) [][]int {
	x, behind, ok := parse(l, 0)
	if !ok || behind != len(l) {
		return nil
	}
	return x.paths(nil)
}

// name is a path as a text, so that a map may hold it.
func name(p []int) string {
	var b strings.Builder
	for _, n := range p {
		b.WriteString(strconv.Itoa(n) + ",")
	}
	return b.String()
}

// places are all places of a list, and some outside.
func places(l []api.Node) []int {
	at := []int{math.MinInt, math.MinInt + 1, -1 << 32, -len(l) - 1, -len(l), -2, -1}
	for i := range len(l) + 3 {
		at = append(at, i)
	}
	return append(at, len(l)+200, 1<<31, 1<<32, 1<<62, math.MaxInt-1, math.MaxInt)
}

// strange are paths close to those of a list, most of which lead to no node: each one with another number at its end, with one at any place that is changed, and with more behind.
func strange(l []api.Node, paths [][]int) [][]int {
	numbers := []int{math.MinInt, -1 << 32, -1, 0, 1, 2, 3, 200, 1 << 32, 1<<32 + 1, math.MaxInt}
	all := [][]int{nil, {}}
	for i, p := range append(slices.Clone(paths), nil) {
		more := numbers
		if i < len(paths) {
			more = append(slices.Clone(numbers), arity(l[i])-1, arity(l[i]), arity(l[i])+1)
		}
		for _, n := range more {
			all = append(all, slices.Concat(p, []int{n}), slices.Concat(p, []int{n, 0}), slices.Concat(p, []int{0, n}))
			for j := range min(len(p), 5) {
				changed := slices.Clone(p)
				changed[len(p)-1-j] = n
				all = append(all, changed)
			}
		}
		if len(p) > 0 {
			changed := slices.Clone(p)
			changed[0]--
			longer := slices.Clone(p)
			longer[len(p)-1]++
			all = append(all, changed, longer, p[:len(p)-1], slices.Concat([]int{0}, p), slices.Concat(p, p))
		}
	}
	return all
}

// hold holds Of and Find against the chapter's words: Of at all places, Find of all paths and of strange ones, told twice; the list and the paths stay as they were.
func hold(t *testing.T, l []api.Node) {
	t.Helper()
	was := slices.Clone(l)
	paths := told(was)
	finds := map[string]int{}
	for at, p := range paths {
		finds[name(p)] = at
	}
	for range 2 {
		for _, at := range places(l) {
			ofHolds(t, l, at, paths)
		}
		for _, p := range slices.Concat(paths, strange(was, paths)) {
			want, ok := finds[name(p)]
			if !ok {
				want = -1
			}
			findHolds(t, l, p, want)
		}
	}
	if !slices.Equal(l, was) {
		t.Fatalf("%v was changed: %v", was, l)
	}
}

// ofHolds holds Of at a place against the paths that there are.
func ofHolds(t *testing.T, l []api.Node, at int, paths [][]int) {
	t.Helper()
	p, ok := path.Of(l, at)
	switch {
	case at < 0 || at >= len(paths):
		if ok || len(p) != 0 {
			t.Fatalf("Of(%v, %d): %v, %v", l, at, p, ok)
		}
	case !ok || !slices.Equal(p, paths[at]):
		t.Fatalf("Of(%v, %d): %v, %v, not %v", l, at, p, ok, paths[at])
	}
}

// findHolds holds Find of a path against the place that it leads to.
func findHolds(t *testing.T, l []api.Node, p []int, want int) {
	t.Helper()
	was := slices.Clone(p)
	if at := path.Find(l, p); at != want {
		t.Fatalf("Find(%v, %v): %d, not %d", l, was, at, want)
	}
	if !slices.Equal(p, was) {
		t.Fatalf("Find(%v, %v) changed the path: %v", l, was, p)
	}
}

// grown is a tree by chance, of at most about so many nodes.
func grown(r *rand.Rand, size int) tree {
	l := table()
	a := l[r.Intn(len(l))]
	for size > 4 && a.kids == 0 { // so that most are about as large as they may be
		a = l[r.Intn(len(l))]
	}
	x := tree{node: api.Node{Tag: a.tag, N: number(r, a)}}
	n := a.kids
	if n < 0 {
		n = r.Intn(1 + min(size, 1+r.Intn(12)))
		x.node.N = n
	}
	if n > 0 && size <= n { // no room is left for its kids
		return tree{node: api.Node{Tag: 26}}
	}
	for range n {
		x.kids = append(x.kids, grown(r, (size-1)/n))
	}
	return x
}

// number is a number by chance that a tag may bear.
func number(r *rand.Rand, a ask) int {
	if a.tag == 1 {
		return int(r.Uint64()) >> r.Intn(64)
	}
	return a.least + r.Intn(a.most-a.least+1)
}

// bad are nodes that may not be, those just outside of the table among them.
func bad() []api.Node {
	l := []api.Node{{}, {Tag: 0, N: 1}, {Tag: 27}, {Tag: -1}, {Tag: 1 << 32}, {Tag: 1<<32 + 1}, {Tag: 256 + 5}, {Tag: math.MinInt}, {Tag: math.MaxInt}}
	for _, a := range table() {
		if a.tag != 1 {
			l = append(l, api.Node{Tag: a.tag, N: a.least - 1}, api.Node{Tag: a.tag, N: a.most + 1}, api.Node{Tag: a.tag, N: math.MinInt}, api.Node{Tag: a.tag, N: math.MaxInt}, api.Node{Tag: a.tag, N: 1 << 32})
		}
	}
	return l
}

// block is a Block of so many Skips.
func block(n int) []api.Node {
	return append([]api.Node{{Tag: 20, N: n}}, slices.Repeat([]api.Node{{Tag: 26}}, n)...)
}
