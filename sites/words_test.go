package sites_test

import (
	"math"
	"math/rand"
	"slices"
	"testing"

	"offshoot/api"
	"offshoot/kinds"
	"offshoot/sites"
)

// tree is a node with its kids.
type tree struct {
	node api.Node
	kids []tree
}

// of is a tree of a tag, a number, and kids.
func of(tag, n int, kids ...tree) tree { return tree{api.Node{Tag: tag, N: n}, kids} }

// block is a Block of kids.
func block(kids ...tree) tree { return of(20, len(kids), kids...) }

// chain is a tag so many times, each the one kid of the one above, and a tree below.
func chain(tag, n int, x tree) tree {
	for range n {
		x = of(tag, 0, x)
	}
	return x
}

// list is the node, and its kids with all below them.
func (x tree) list() []api.Node { return x.behind(nil) }

// behind are nodes, and those of the tree behind them.
func (x tree) behind(l []api.Node) []api.Node {
	l = append(l, x.node)
	for _, k := range x.kids {
		l = k.behind(l)
	}
	return l
}

// depth is how deep the node is.
func (x tree) depth() int {
	most := 0
	for _, k := range x.kids {
		most = max(most, k.depth())
	}
	return most + 1
}

// below is the tree of a path; false, if there is none.
func (x tree) below(path []int) (tree, bool) {
	for _, n := range path {
		if n < 0 || n >= len(x.kids) {
			return tree{}, false
		}
		x = x.kids[n]
	}
	return x, true
}

// with is the tree with another one at a path.
func (x tree) with(path []int, y tree) tree {
	if len(path) == 0 {
		return y
	}
	kids := slices.Clone(x.kids)
	kids[path[0]] = kids[path[0]].with(path[1:], y)
	return tree{x.node, kids}
}

// may tells, sentence by sentence of chapter 13, whether an operator may put in a number at a tree.
func may(x tree, op, n int) bool {
	tag := x.node.Tag
	switch op {
	case 1:
		return 7 <= tag && tag <= 11 && 7 <= n && n <= 11 && n != tag
	case 2:
		return 12 <= tag && tag <= 17 && 12 <= n && n <= 17 && n != tag
	case 3:
		return tag == 18 && n == 19 || tag == 19 && n == 18
	case 4:
		if tag == 2 {
			return x.node.N == 0 && n == 1 || x.node.N != 0 && n == 0
		}
		near := n == 0 || n == 1 || n == -1 || uint(n)-1 == uint(x.node.N) || uint(n)+1 == uint(x.node.N)
		return tag == 1 && near && n != x.node.N
	case 5:
		return 21 <= tag && tag <= 25 && n == 0
	case 6:
		return (tag == 23 || tag == 24) && n == 0
	case 7:
		return tag == 25 && (n == 0 || n == 1) && x.kids[0].node != api.Node{Tag: 1, N: n}
	}
	return false
}

// done is what an operator does at a tree, by chapter 12's table.
func done(x tree, op, n int) tree {
	switch op {
	case 4:
		return of(x.node.Tag, n)
	case 5:
		return of(26, 0)
	case 6:
		return of(x.node.Tag, 0, append([]tree{of(6, 0, x.kids[0])}, x.kids[1:]...)...)
	case 7:
		return of(25, 0, of(1, n))
	}
	return of(n, 0, x.kids...)
}

// numbers are all that may be a choice's at a node, in their order: small ones, and those beside its own.
func numbers(own int) []int {
	l := []int{int(uint(own) - 1), int(uint(own) + 1)}
	for n := -2; n <= 20; n++ {
		l = append(l, n)
	}
	slices.Sort(l)
	return slices.Compact(l)
}

// mutants are all of a tree's, by the words of the chapters: each node in order, each operator, each number.
func (x tree) mutants(own []int) []api.Delta {
	var l []api.Delta
	for op := 1; op <= 7; op++ {
		for _, n := range numbers(x.node.N) {
			if may(x, op, n) {
				l = append(l, api.Delta{Path: own, Op: op, N: n})
			}
		}
	}
	for n, k := range x.kids {
		l = append(l, k.mutants(slices.Concat(own, []int{n}))...)
	}
	return l
}

// told is what Mutant tells by the chapter's words, of a typed program whose body is a tree.
func told(p api.Program, x tree, d api.Delta) (api.Program, api.Errno) {
	y, ok := x.below(d.Path)
	if !ok || !may(y, d.Op, d.N) {
		return api.Program{}, api.ErrDelta
	}
	p.Body = x.with(d.Path, done(y, d.Op, d.N)).list()
	return p, api.OK
}

// variables are those that grown's trees speak of: numbers, truths and arrays, the first two parameters.
func variables() []int { return []int{0, 0, 1, 4, 9, 1, 0, 2} }

// program is one whose body is a tree, with variables.
func program(x tree) api.Program {
	return api.Program{Params: 2, Vars: variables(), Body: x.list()}
}

// one is one of some things, by chance.
func one[T any](r *rand.Rand, l ...T) T { return l[r.Intn(len(l))] }

// number is a tree by chance whose kind is a number, of about so many nodes.
func number(r *rand.Rand, size int) tree {
	switch half := (size - 1) / 2; {
	case size < 2 && r.Intn(2) == 0:
		return of(3, one(r, 0, 1, 6))
	case size < 2:
		return of(1, one(r, 0, 1, -1, 2, -2, 7, math.MaxInt, math.MinInt, int(r.Uint64())>>r.Intn(64)))
	case size < 3 && r.Intn(2) == 0:
		return of(4, one(r, 3, 4, 7), number(r, size-1))
	case size < 3 || r.Intn(8) == 0:
		return of(5, 0, number(r, size-1))
	default:
		return of(7+r.Intn(5), 0, number(r, half), number(r, size-1-half))
	}
}

// truth is a tree by chance whose kind is a truth.
func truth(r *rand.Rand, size int) tree {
	switch half := (size - 1) / 2; {
	case size < 2 && r.Intn(2) == 0:
		return of(3, one(r, 2, 5))
	case size < 2:
		return of(2, r.Intn(2))
	case size < 3 || r.Intn(8) == 0:
		return of(6, 0, truth(r, size-1))
	case r.Intn(2) == 0:
		return of(18+r.Intn(2), 0, truth(r, half), truth(r, size-1-half))
	default:
		return of(12+r.Intn(6), 0, number(r, half), number(r, size-1-half))
	}
}

// statement is a tree by chance whose kind is a statement.
func statement(r *rand.Rand, size int) tree {
	half, third := (size-1)/2, (size-1)/3
	if size < 4 {
		return one(r, of(26, 0), of(25, 0, number(r, size-1)), of(21, 6, number(r, size-1)), of(21, 5, truth(r, size-1)))
	}
	switch r.Intn(6) {
	case 0:
		return of(22, one(r, 3, 4, 7), number(r, half), number(r, size-1-half))
	case 1:
		return of(23, 0, truth(r, third), grown(r, third), grown(r, third))
	case 2:
		return of(24, 0, truth(r, half), grown(r, size-1-half))
	case 3:
		return of(25, 0, number(r, size-1))
	case 4:
		return of(21, 1, number(r, size-1))
	default:
		return grown(r, size)
	}
}

// grown is a Block by chance, of about so many nodes.
func grown(r *rand.Rand, size int) tree {
	var kids []tree
	for left := size - 1; left > 0 && len(kids) < 9; {
		n := 1 + r.Intn(left)
		kids = append(kids, statement(r, n))
		left -= n
	}
	return block(kids...)
}

// typed is a tree by chance that is a typed program's body.
func typed(r *rand.Rand, size int) tree {
	for {
		if x := grown(r, 1+r.Intn(size)); kinds.Check(program(x)) == api.OK {
			return x
		}
	}
}

// same tells whether deltas are alike.
func same(a, b api.Delta) bool {
	return slices.Equal(a.Path, b.Path) && a.Op == b.Op && a.N == b.N
}

// alike tells whether programs are alike.
func alike(a, b api.Program) bool {
	return a.Params == b.Params && slices.Equal(a.Vars, b.Vars) && slices.Equal(a.Body, b.Body)
}

// mark is a node that no program has.
func mark() api.Node { return api.Node{Tag: 77, N: 77} }

// roomy is a list with room behind it, full of marks.
func roomy[T any](l []T, mark T) []T {
	return slices.Concat(l, slices.Repeat([]T{mark}, 5))[:len(l)]
}

// kept tells whether a roomy list, and the room behind it, are as they were.
func kept[T comparable](l, was []T, mark T) bool {
	return slices.Equal(l, was) && slices.Equal(l[len(l):len(l)+5], slices.Repeat([]T{mark}, 5))
}

// spoil changes all of a list, and the room behind it.
func spoil[T any](l []T, with T) {
	l = l[:cap(l)]
	for i := range l {
		l[i] = with
	}
}

// roomyProgram is a program whose lists have room behind them.
func roomyProgram(p api.Program) api.Program {
	return api.Program{Params: p.Params, Vars: roomy(p.Vars, 77), Body: roomy(p.Body, mark())}
}

// unchanged tells whether a roomy program is as it was.
func unchanged(p, was api.Program) bool {
	return p.Params == was.Params && kept(p.Vars, was.Vars, 77) && kept(p.Body, was.Body, mark())
}

// short is the beginning of a list: enough to be told.
func short[T any](l []T) []T { return l[:min(len(l), 30)] }

// listed holds All against what it must tell, told twice. Nothing that was given is changed, not even behind its end, and who changes one path of one answer changes neither another one of it nor the other answer.
func listed(t *testing.T, p api.Program, want []api.Delta, e api.Errno) {
	t.Helper()
	given := roomyProgram(p)
	first, f := sites.All(given)
	second, g := sites.All(given)
	if f != e || g != e || !slices.EqualFunc(first, want, same) || !slices.EqualFunc(second, want, same) {
		t.Fatalf("All(%v): %v %v, and %v %v, not %v %v", short(p.Body), short(first), f, short(second), g, short(want), e)
	}
	for i, d := range first {
		spoil(d.Path, 1000+i)
	}
	for i, d := range first { // so a path that is shared bears the mark of the last one that shares it
		if path := d.Path[:cap(d.Path)]; slices.ContainsFunc(path, func(n int) bool { return n != 1000+i }) {
			t.Fatalf("All(%v): the path at %d is shared: %v", short(p.Body), i, path)
		}
	}
	spoil(first, api.Delta{Op: -99})
	if !unchanged(given, p) {
		t.Fatalf("All(%v): %v is left", short(p.Body), given)
	}
	if !slices.EqualFunc(second, want, same) {
		t.Fatalf("All(%v): %v, once another answer was changed", short(p.Body), short(second))
	}
}

// made holds Mutant against what it must tell, told twice. Nothing that was given is changed, not even behind its end, and who changes one answer changes neither that nor the other one.
func made(t *testing.T, p api.Program, d api.Delta, want api.Program, e api.Errno) {
	t.Helper()
	given, by := roomyProgram(p), api.Delta{Path: roomy(d.Path, 77), Op: d.Op, N: d.N}
	first, f := sites.Mutant(given, by)
	second, g := sites.Mutant(given, by)
	if f != e || g != e || !alike(first, want) || !alike(second, want) {
		t.Fatalf("Mutant(%v, %v): %v %v, and %v %v, not %v %v", short(p.Body), d, short(first.Body), f, short(second.Body), g, short(want.Body), e)
	}
	spoil(first.Vars, -99)
	spoil(first.Body, api.Node{Tag: -99, N: -99})
	if !unchanged(given, p) || !kept(by.Path, d.Path, 77) {
		t.Fatalf("Mutant(%v, %v): %v, %v are left", short(p.Body), d, given, by)
	}
	if !alike(second, want) {
		t.Fatalf("Mutant(%v, %v): %v, once another answer was changed", short(p.Body), d, short(second.Body))
	}
}

// found holds Find against what it must tell, twice. Nothing that was given is changed, not even behind its end.
func found(t *testing.T, l []api.Delta, d api.Delta, want int) {
	t.Helper()
	given := make([]api.Delta, 0, len(l)+1)
	for _, x := range l {
		given = append(given, api.Delta{Path: roomy(x.Path, 77), Op: x.Op, N: x.N})
	}
	stop := api.Delta{Path: []int{77}, Op: 77, N: 77}
	behind := append(given, stop)
	by := api.Delta{Path: roomy(d.Path, 77), Op: d.Op, N: d.N}
	for range 2 {
		if at := sites.Find(given, by); at != want {
			t.Fatalf("Find(%v, %v): %d, not %d", short(l), d, at, want)
		}
	}
	for i, x := range given {
		if !kept(x.Path, l[i].Path, 77) || x.Op != l[i].Op || x.N != l[i].N {
			t.Fatalf("Find(%v, %v): %v is left at %d", short(l), d, x, i)
		}
	}
	if !kept(by.Path, d.Path, 77) || !same(behind[len(l)], stop) {
		t.Fatalf("Find(%v, %v): %v, and %v are left", short(l), d, by, behind[len(l)])
	}
}
