package catalog_test

import (
	"math"
	"math/rand"
	"slices"
	"testing"

	"offshoot/api"
	"offshoot/catalog"
)

// tree is a node with its kids.
type tree struct {
	node api.Node
	kids []tree
}

// of is a tree of a tag, a number, and kids.
func of(tag, n int, kids ...tree) tree { return tree{api.Node{Tag: tag, N: n}, kids} }

// block is a Block of kids.
func block(kids ...tree) tree { return of(20, len(kids), kids...) }

// list is the node, and its kids with all below them.
func (x tree) list() []api.Node { return x.behind(nil) }

// behind are nodes, and those of the tree behind them.
func (x tree) behind(l []api.Node) []api.Node {
	l = append(l, x.node)
	for _, k := range x.kids {
		l = k.behind(l)
	}
	return l
}

// all are the node, and all below it, in their order.
func (x tree) all() []tree {
	l := []tree{x}
	for _, k := range x.kids {
		l = append(l, k.all()...)
	}
	return l
}

// kids is how many kids a tag asks for, by chapter 8's table. A Block is asked for none.
func kids(tag int) int {
	switch {
	case tag <= 3 || tag == 20 || tag == 26:
		return 0
	case tag <= 6 || tag == 21 || tag == 25:
		return 1
	case tag == 23:
		return 3
	}
	return 2
}

// most is the greatest number that a tag may bear, by chapter 8's table.
func most(tag int) int {
	switch tag {
	case 1:
		return math.MaxInt
	case 2:
		return 1
	case 3, 4, 21, 22:
		return 11
	case 20:
		return 200
	}
	return 0
}

// parsed is the tree at a place, and the place behind it; false, if its end is -1.
func parsed(l []api.Node, at int) (tree, int, bool) {
	if at < 0 || at >= len(l) {
		return tree{}, 0, false
	}
	x := tree{node: l[at]}
	n := x.node.N
	if x.node.Tag < 1 || x.node.Tag > 26 || x.node.Tag != 1 && (n < 0 || n > most(x.node.Tag)) {
		return tree{}, 0, false
	}
	owed, behind := kids(x.node.Tag), at+1
	if x.node.Tag == 20 {
		owed = n
	}
	for range owed {
		k, next, ok := parsed(l, behind)
		if !ok {
			return tree{}, 0, false
		}
		x.kids = append(x.kids, k)
		behind = next
	}
	return x, behind, true
}

// may tells, sentence by sentence of the chapter, whether an operator may put in a number at a tree.
func may(x tree, op, n int) bool {
	tag := x.node.Tag
	switch op {
	case 1:
		return 7 <= tag && tag <= 11 && 7 <= n && n <= 11 && n != tag
	case 2:
		return 12 <= tag && tag <= 17 && 12 <= n && n <= 17 && n != tag
	case 3:
		return tag == 18 && n == 19 || tag == 19 && n == 18
	case 4:
		if tag == 2 {
			return x.node.N == 0 && n == 1 || x.node.N != 0 && n == 0
		}
		near := n == 0 || n == 1 || n == -1 || uint(n)-1 == uint(x.node.N) || uint(n)+1 == uint(x.node.N)
		return tag == 1 && near && n != x.node.N
	case 5:
		return 21 <= tag && tag <= 25 && n == 0
	case 6:
		return (tag == 23 || tag == 24) && n == 0
	case 7:
		return tag == 25 && (n == 0 || n == 1) && x.kids[0].node != api.Node{Tag: 1, N: n}
	}
	return false
}

// ops are the operators, and numbers that are none, those that fewer bits would take for one among them.
func ops() []int {
	l := []int{1, 2, 3, 4, 5, 6, 7, 0, 8, 9, -1, -2, -7, math.MinInt, math.MinInt + 1, math.MaxInt - 1, math.MaxInt}
	for op := 1; op <= 7; op++ {
		l = append(l, op+8, op+1<<8, op-1<<8, op+1<<32, op-1<<32, op+math.MinInt)
	}
	return l
}

// numbers are those that may be a choice's somewhere, those beside them, and others far off, in their order; those about a node's own number, too.
func numbers(own int) []int {
	l := []int{math.MinInt, math.MinInt + 1, math.MinInt + 7, math.MaxInt - 1, math.MaxInt, 1 << 8, 1 << 32, 1<<32 + 1, 1<<32 - 1, 1<<8 + 12, -1 << 8}
	for n := -4; n <= 27; n++ {
		l = append(l, n)
	}
	for n := -3; n <= 3; n++ {
		l = append(l, int(uint(own)+uint(n)))
	}
	slices.Sort(l)
	return slices.Compact(l)
}

// listed is what the chapter lets at a tree: each operator with each number is asked, in their order.
func listed(x tree) []api.Delta {
	var l []api.Delta
	for op := 1; op <= 7; op++ {
		for _, n := range numbers(x.node.N) {
			if may(x, op, n) {
				l = append(l, api.Delta{Op: op, N: n})
			}
		}
	}
	return l
}

// given holds Choices against what it must tell, told twice. Nothing that was given is changed, not even behind its end, and who changes one answer changes neither that nor the other one.
func given(t *testing.T, l []api.Node, at int, want []api.Delta) {
	t.Helper()
	mark := api.Node{Tag: 77, N: 77}
	roomy := slices.Concat(l, slices.Repeat([]api.Node{mark}, 5))
	first, second := catalog.Choices(roomy[:len(l)], at), catalog.Choices(roomy[:len(l)], at)
	if !alike(first, want) || !alike(second, want) {
		t.Fatalf("Choices(%v, %d): %v, and %v, not %v", short(l), at, first, second, want)
	}
	for i, d := range first {
		spoil(d.Path, 99)
		first[i] = api.Delta{Path: []int{99}, Op: 99, N: 99}
	}
	spoil(first, api.Delta{Op: -99})
	if !slices.Equal(roomy[:len(l)], l) || !slices.Equal(roomy[len(l):], slices.Repeat([]api.Node{mark}, 5)) {
		t.Fatalf("Choices(%v, %d): %v is left", short(l), at, short(roomy))
	}
	if !alike(second, want) {
		t.Fatalf("Choices(%v, %d): %v, once another answer was changed", short(l), at, second)
	}
}

// asked holds Is against the choices that there must be: with each operator and each number beside one, and far off.
func asked(t *testing.T, l []api.Node, at int, own int, want []api.Delta) {
	t.Helper()
	was := slices.Clone(l)
	all, beside := ops(), numbers(own)
	if len(l) > 50 { // each call goes through all that is below: a few are enough
		all, beside = []int{0, 1, 2, 3, 4, 5, 6, 7, 8}, []int{-1, 0, 1, 2, 7, 8, 12, 13, 18, 19, own}
	}
	for _, op := range all {
		for _, n := range beside {
			is := slices.ContainsFunc(want, func(d api.Delta) bool { return d.Op == op && d.N == n })
			if catalog.Is(l, at, op, n) != is || catalog.Is(l, at, op, n) != is {
				t.Fatalf("Is(%v, %d, %d, %d) is not %v", short(l), at, op, n, is)
			}
		}
	}
	if !slices.Equal(l, was) {
		t.Fatalf("Is(%v, %d): %v is left", short(was), at, short(l))
	}
}

// hold holds both calls, at a place of a list, against the chapter's words.
func hold(t *testing.T, l []api.Node, at int) []api.Delta {
	t.Helper()
	x, _, ok := parsed(l, at)
	var want []api.Delta
	if ok {
		want = listed(x)
	}
	given(t, l, at, want)
	asked(t, l, at, x.node.N, want)
	return want
}

// alike tells whether deltas are alike, one by one.
func alike(a, b []api.Delta) bool {
	return slices.EqualFunc(a, b, func(a, b api.Delta) bool {
		return slices.Equal(a.Path, b.Path) && a.Op == b.Op && a.N == b.N
	})
}

// spoil changes all of a list, and the room behind it.
func spoil[T any](l []T, with T) {
	l = l[:cap(l)]
	for i := range l {
		l[i] = with
	}
}

// short is the beginning of a list: enough to be told.
func short(l []api.Node) []api.Node { return l[:min(len(l), 20)] }

// grown is a tree by chance, of about so many nodes. What stands below a node is of any kind.
func grown(r *rand.Rand, size int) tree {
	tag := 1 + r.Intn(26)
	for size > 4 && kids(tag) == 0 && tag != 20 { // so that most are about as large as they may be
		tag = 4 + r.Intn(22)
	}
	n := kids(tag)
	x := of(tag, r.Intn(min(most(tag), 11)+1))
	switch tag {
	case 1:
		x.node.N = number(r)
	case 20:
		n = r.Intn(min(size, 8) + 1)
		x.node.N = n
	}
	if n >= max(size, 1) { // no room is left for its kids
		return of(1, number(r))
	}
	for range n {
		x.kids = append(x.kids, grown(r, (size-1)/n))
	}
	return x
}

// number is a number by chance: small, as great as may be, or in between.
func number(r *rand.Rand) int {
	if r.Intn(2) == 0 {
		return r.Intn(7) - 3
	}
	return int(r.Uint64()) >> r.Intn(64)
}

// bearing is a tree of a tag, its number and all below it by chance.
func bearing(r *rand.Rand, tag, size int) tree {
	x := of(tag, r.Intn(min(most(tag), 11)+1))
	n := kids(tag)
	switch tag {
	case 1:
		x.node.N = number(r)
	case 20:
		n = x.node.N
	}
	for range n {
		x.kids = append(x.kids, grown(r, size))
	}
	return x
}

// site is a list, and a place in it.
type site struct {
	l  []api.Node
	at int
}

// around are lists in which a tree stands: alone, so that it is the whole list; as the first kid, in between, and the last one; below others; and ahead of and behind what is no part of it.
func around(x tree) []site {
	own := x.list()
	set, back := of(21, 3, of(7, 0, of(3, 0), of(1, 9))), of(25, 0, of(1, 1))
	under := func(up tree, path ...int) site { // the place is told apart: how many nodes stand ahead
		at := 0
		for _, n := range path {
			at++
			for _, k := range up.kids[:n] {
				at += len(k.list())
			}
			up = up.kids[n]
		}
		return site{at: at}
	}
	l := []site{{own, 0}}
	for _, up := range []struct {
		whole tree
		path  []int
	}{
		{block(x, set, back), []int{0}}, {block(set, x, back), []int{1}}, {block(set, back, x), []int{2}},
		{of(18, 0, x, of(2, 1)), []int{0}}, {of(25, 0, x), []int{0}}, {of(24, 0, of(2, 1), x), []int{1}},
		{block(of(26, 0), of(23, 0, of(2, 0), block(back, x, set), block(set)), back), []int{1, 1, 1}},
	} {
		s := under(up.whole, up.path...)
		s.l = up.whole.list()
		l = append(l, s)
	}
	odd := []api.Node{{Tag: 0}, {Tag: 27, N: 1}, {Tag: 2, N: 2}, {Tag: 20, N: 201}, {Tag: -1, N: -1}}
	l = append(l, site{slices.Concat(odd, own), len(odd)}, site{slices.Concat(own, odd), 0}, site{slices.Concat(odd, own, odd), len(odd)})
	return append(l, site{slices.Concat([]api.Node{{Tag: 23}, {Tag: 20, N: 9}}, own, own[:1]), 2})
}
