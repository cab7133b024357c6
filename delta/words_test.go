package delta_test

import (
	"math"
	"math/rand"
	"slices"
	"testing"

	"offshoot/api"
	"offshoot/delta"
)

// tree is a node with its kids.
type tree struct {
	node api.Node
	kids []tree
}

// of is a tree of a tag, a number, and kids.
func of(tag, n int, kids ...tree) tree { return tree{api.Node{Tag: tag, N: n}, kids} }

// list is the node, and its kids with all below them.
func (x tree) list() []api.Node { return x.behind(nil) }

// behind are nodes, and those of the tree behind them.
func (x tree) behind(l []api.Node) []api.Node {
	l = append(l, x.node)
	for _, k := range x.kids {
		l = k.behind(l)
	}
	return l
}

// below is the tree of a path; false, if there is none.
func (x tree) below(path []int) (tree, bool) {
	for _, n := range path {
		if n < 0 || n >= len(x.kids) {
			return tree{}, false
		}
		x = x.kids[n]
	}
	return x, true
}

// with is the tree with another one at a path.
func (x tree) with(path []int, y tree) tree {
	if len(path) == 0 {
		return y
	}
	kids := slices.Clone(x.kids)
	kids[path[0]] = kids[path[0]].with(path[1:], y)
	return tree{x.node, kids}
}

// paths are the paths of the node and all below it, in their order.
func (x tree) paths(own []int) [][]int {
	all := [][]int{own}
	for n, k := range x.kids {
		all = append(all, k.paths(slices.Concat(own, []int{n}))...)
	}
	return all
}

// row is a row of the chapter's table: an operator, the tags and the numbers that it lets, and what is done.
type row struct {
	op                int
	firstTag, lastTag int
	least, most       int
	do                func(tree, int) tree
}

// rows is the chapter's table, its numbers written out by hand.
func rows() []row {
	tag := func(x tree, n int) tree { return of(n, 0, x.kids...) }
	number := func(x tree, n int) tree { return of(x.node.Tag, n) }
	skip := func(tree, int) tree { return of(26, 0) }
	not := func(x tree, _ int) tree {
		return of(x.node.Tag, 0, append([]tree{of(6, 0, x.kids[0])}, x.kids[1:]...)...)
	}
	back := func(_ tree, n int) tree { return of(25, 0, of(1, n)) }
	return []row{
		{1, 7, 11, 7, 11, tag}, {2, 12, 17, 12, 17, tag}, {3, 18, 19, 18, 19, tag},
		{4, 1, 1, math.MinInt, math.MaxInt, number}, {4, 2, 2, 0, 1, number},
		{5, 21, 25, 0, 0, skip},
		{6, 23, 24, 0, 0, not},
		{7, 25, 25, math.MinInt, math.MaxInt, back},
	}
}

// told is what Apply tells by the chapter's words, of a program whose body is a tree.
func told(p api.Program, x tree, d api.Delta) (api.Program, api.Errno) {
	y, ok := x.below(d.Path)
	if !ok {
		return api.Program{}, api.ErrPath
	}
	for _, r := range rows() {
		if r.op == d.Op && r.firstTag <= y.node.Tag && y.node.Tag <= r.lastTag && r.least <= d.N && d.N <= r.most {
			p.Body = x.with(d.Path, r.do(y, d.N)).list()
			return p, api.OK
		}
	}
	return api.Program{}, api.ErrDelta
}

// hold holds Apply of a delta against the chapter's words, and tells whether it may be.
func hold(t *testing.T, x tree, d api.Delta) bool {
	t.Helper()
	p := api.Program{Params: 1, Vars: []int{0, 1, 4}, Body: x.list()}
	want, e := told(p, x, d)
	applied(t, p, d, want, e)
	return e == api.OK
}

// applied holds Apply against what it must tell, told twice. Nothing that was given is changed, not even behind its end, and who changes one answer changes neither that nor the other one.
func applied(t *testing.T, p api.Program, d api.Delta, want api.Program, e api.Errno) {
	t.Helper()
	given := api.Program{Params: p.Params, Vars: roomy(p.Vars, 77), Body: roomy(p.Body, mark())}
	by := api.Delta{Path: roomy(d.Path, 77), Op: d.Op, N: d.N}
	first, f := delta.Apply(given, by)
	second, g := delta.Apply(given, by)
	if f != e || g != e || !alike(first, want) || !alike(second, want) {
		t.Fatalf("Apply(%v, %v): %v %v, and %v %v, not %v %v", p, d, first, f, second, g, want, e)
	}
	spoil(first.Vars, -99)
	spoil(first.Body, api.Node{Tag: -99, N: -99})
	if !kept(given.Vars, p.Vars, 77) || !kept(given.Body, p.Body, mark()) || !kept(by.Path, d.Path, 77) {
		t.Fatalf("Apply(%v, %v): %v, %v are left", p, d, given, by)
	}
	if !alike(second, want) {
		t.Fatalf("Apply(%v, %v): %v, once another answer was changed", p, d, second)
	}
}

// mark is a node that no program has.
func mark() api.Node { return api.Node{Tag: 77, N: 77} }

// roomy is a list with room behind it, full of marks.
func roomy[T any](l []T, mark T) []T {
	return slices.Concat(l, slices.Repeat([]T{mark}, 5))[:len(l)]
}

// kept tells whether a roomy list, and the room behind it, are as they were.
func kept[T comparable](l, was []T, mark T) bool {
	return slices.Equal(l, was) && slices.Equal(l[len(l):len(l)+5], slices.Repeat([]T{mark}, 5))
}

// spoil changes all of a list, and the room behind it.
func spoil[T any](l []T, with T) {
	l = l[:cap(l)]
	for i := range l {
		l[i] = with
	}
}

// alike tells whether programs are alike.
func alike(a, b api.Program) bool {
	return a.Params == b.Params && slices.Equal(a.Vars, b.Vars) && slices.Equal(a.Body, b.Body)
}

// kids is how many kids a tag asks for, by chapter 8's table. A Block is asked for none.
func kids(tag int) int {
	switch {
	case tag <= 3 || tag == 20 || tag == 26:
		return 0
	case tag <= 6 || tag == 21 || tag == 25:
		return 1
	case tag == 23:
		return 3
	}
	return 2
}

// most is the greatest number that a tag may bear, by chapter 8's table.
func most(tag int) int {
	switch tag {
	case 1:
		return math.MaxInt
	case 2:
		return 1
	case 3, 4, 21, 22:
		return 11
	}
	return 0
}

// bearing is a tree of a tag, its number by chance, its kids' tags, too.
func bearing(r *rand.Rand, tag int) tree {
	x := of(tag, 0)
	switch tag {
	case 1:
		x.node.N = int(r.Uint64()) >> r.Intn(64)
	case 20:
		x = block(of(26, 0), of(25, 0, of(3, 1)))
	default:
		x.node.N = r.Intn(most(tag) + 1)
	}
	for range kids(tag) {
		x.kids = append(x.kids, grown(r, 4))
	}
	return x
}

// block is a Block of kids.
func block(kids ...tree) tree { return of(20, len(kids), kids...) }

// grown is a tree by chance, of about so many nodes.
func grown(r *rand.Rand, size int) tree {
	tag := 1 + r.Intn(26)
	for size > 4 && kids(tag) == 0 { // so that most are about as large as they may be
		tag = 4 + r.Intn(22)
		if tag == 20 {
			break
		}
	}
	x := of(tag, 0)
	n := kids(tag)
	switch {
	case tag == 20:
		n = r.Intn(min(size, 8) + 1)
		x.node.N = n
	case tag == 1:
		x.node.N = int(r.Uint64()) >> r.Intn(64)
	default:
		x.node.N = r.Intn(most(tag) + 1)
	}
	if n >= max(size, 1) { // no room is left for its kids
		return of(2, r.Intn(2))
	}
	for range n {
		x.kids = append(x.kids, grown(r, (size-1)/n))
	}
	return x
}

// ops are operators, and numbers that are none.
func ops() []int { return append([]int{1, 2, 3, 4, 5, 6, 7}, noOps()...) }

// noOps are numbers of which there is no operator, those that fewer bits would take for one among them.
func noOps() []int {
	l := []int{0, 8, 9, -1, -2, -7, math.MinInt, math.MinInt + 1, math.MaxInt - 1, math.MaxInt}
	for op := 1; op <= 7; op++ {
		l = append(l, op+8, op+1<<8, op-1<<8, op+1<<32, op-1<<32, op+math.MinInt)
	}
	return l
}

// numbers are those that may be an operator's number somewhere, those just outside, and others far off.
func numbers() []int {
	l := []int{math.MinInt, math.MinInt + 1, math.MaxInt - 1, math.MaxInt, 1 << 32, 1<<32 + 1, 1<<32 + 7, 1<<8 + 12, math.MinInt + 18, -1 << 8}
	for n := -3; n <= 30; n++ {
		l = append(l, n)
	}
	return l
}
