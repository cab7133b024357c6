package kinds_test

import (
	"math"
	"math/rand"
	"slices"
	"strings"
	"testing"

	"offshoot/api"
	"offshoot/kinds"
)

// row is a row of the chapter's table: a tag; its variable's type: 0, 1, a for an array, nothing, if it has none; its kids' kinds, B for a 2 that has the tag Block, and * behind what may be there as often as you like; and its kind.
type row struct {
	tag      int
	of, kids string
	kind     int
}

// table is the chapter's table, its numbers written out by hand.
func table() []row {
	l := []row{
		{1, "", "", 0}, {2, "", "", 1}, {3, "0", "", 0}, {3, "1", "", 1}, {4, "a", "0", 0}, {5, "", "0", 0}, {6, "", "1", 1},
		{18, "", "11", 1}, {19, "", "11", 1}, {20, "", "2*", 2}, {21, "0", "0", 2}, {21, "1", "1", 2}, {22, "a", "00", 2},
		{23, "", "1BB", 2}, {24, "", "1B", 2}, {25, "", "0", 2}, {26, "", "", 2},
	}
	for tag := 7; tag <= 11; tag++ {
		l = append(l, row{tag, "", "00", 0})
	}
	for tag := 12; tag <= 17; tag++ {
		l = append(l, row{tag, "", "00", 1})
	}
	return l
}

// takes tells whether a row takes kids of these kinds.
func (a row) takes(kids string) bool {
	if one, many := strings.CutSuffix(a.kids, "*"); many {
		return strings.Trim(asked(kids, one), one) == ""
	}
	return len(kids) == len(a.kids) && asked(kids, a.kids) == a.kids
}

// asked is kids' kinds, with a 2 for a B where no B is asked for.
func asked(kids, ask string) string {
	if strings.Contains(ask, "B") {
		return kids
	}
	return strings.ReplaceAll(kids, "B", "2")
}

// tree is a node with its kids.
type tree struct {
	node api.Node
	kids []tree
}

// list is the node, and its kids with all below them.
func (x tree) list() []api.Node {
	l := []api.Node{x.node}
	for _, k := range x.kids {
		l = append(l, k.list()...)
	}
	return l
}

// size is how many nodes it has.
func (x tree) size() int { return len(x.list()) }

// arity is how many kids a node has, by the numbers of chapter 8; -1, if it may not be.
func arity(x api.Node) int {
	most, kids := 0, -1
	switch t := x.Tag; {
	case t == 1:
		return 0
	case t == 2:
		most, kids = 1, 0
	case t == 3:
		most, kids = 11, 0
	case t == 4 || t == 21:
		most, kids = 11, 1
	case t == 5 || t == 6 || t == 25:
		kids = 1
	case t >= 7 && t <= 19 || t == 24:
		kids = 2
	case t == 20:
		most, kids = 200, x.N
	case t == 22:
		most, kids = 11, 2
	case t == 23:
		kids = 3
	case t == 26:
		kids = 0
	}
	if x.N < 0 || x.N > most {
		return -1
	}
	return kids
}

// parse is the tree that stands at a place: it goes down from kid to kid. There is none where arena.End must be -1.
func parse(l []api.Node, at int) (tree, bool) {
	if at < 0 || at >= len(l) || arity(l[at]) < 0 {
		return tree{}, false
	}
	x := tree{node: l[at]}
	behind := at + 1
	for range arity(l[at]) {
		k, ok := parse(l, behind)
		if !ok {
			return tree{}, false
		}
		x.kids = append(x.kids, k)
		behind += k.size()
	}
	return x, true
}

// kind is the node's kind, by the chapter's table.
func (x tree) kind(vars []int) int {
	told := ""
	for _, k := range x.kids {
		told += k.sign(vars)
	}
	of := typeSign(vars, x.node.N)
	for _, a := range table() {
		if a.tag == x.node.Tag && (a.of == "" || a.of == of) && a.takes(told) {
			return a.kind
		}
	}
	return -1
}

// sign is the node's kind as the table's rows name it.
func (x tree) sign(vars []int) string {
	k := x.kind(vars)
	if k == 2 && x.node.Tag == 20 {
		return "B"
	}
	return map[int]string{-1: "-", 0: "0", 1: "1", 2: "2"}[k]
}

// typeSign is a variable's type as the table's rows name it.
func typeSign(vars []int, n int) string {
	if n < 0 || n >= len(vars) {
		return "-"
	}
	switch t := vars[n]; {
	case t == 0:
		return "0"
	case t == 1:
		return "1"
	case t >= 2 && t <= 9:
		return "a"
	}
	return "-"
}

// wordsOf is Of by the chapter's words.
func wordsOf(p api.Program, at int) int {
	x, ok := parse(p.Body, at)
	if !ok {
		return -1
	}
	return x.kind(p.Vars)
}

// places are all places of a list, and some outside.
func places(l []api.Node) []int {
	at := []int{math.MinInt, math.MinInt + 1, -1 << 32, -len(l) - 1, -len(l), -2, -1}
	for i := range len(l) + 3 {
		at = append(at, i)
	}
	return append(at, len(l)+200, 1<<31, 1<<32, 1<<62, math.MaxInt-1, math.MaxInt)
}

// twin is the same program, in memory of its own.
func twin(p api.Program) api.Program {
	return api.Program{Params: p.Params, Vars: slices.Clone(p.Vars), Body: slices.Clone(p.Body)}
}

// unchanged tells whether a program is as its twin was.
func unchanged(t *testing.T, p, was api.Program) {
	t.Helper()
	if p.Params != was.Params || !slices.Equal(p.Vars, was.Vars) || !slices.Equal(p.Body, was.Body) {
		t.Fatalf("%v was changed: %v", was, p)
	}
}

// hold holds Of against the chapter's words at each place, and told twice; the program stays as it was.
func hold(t *testing.T, p api.Program) {
	t.Helper()
	was := twin(p)
	for range 2 {
		for _, at := range places(p.Body) {
			if k, want := kinds.Of(p, at), wordsOf(was, at); k != want {
				t.Fatalf("Of(%v, %d): %d, not %d", p, at, k, want)
			}
		}
	}
	unchanged(t, p, was)
}

// checked holds Check against what it must tell, twice; the program stays as it was.
func checked(t *testing.T, p api.Program, want api.Errno) {
	t.Helper()
	was := twin(p)
	for range 2 {
		if e := kinds.Check(p); e != want {
			t.Fatalf("Check of %d parameters, %v and %d nodes (%v): %v, not %v", p.Params, p.Vars, len(p.Body), p.Body[:min(len(p.Body), 40)], e, want)
		}
	}
	unchanged(t, p, was)
}

// allVars are variables of all types, and of those just outside.
func allVars() []int { return []int{0, 1, 2, 9, 10, -1, 3, 8, 0, 1, 5} }

// goodVars are variables of all types.
func goodVars() []int { return []int{0, 0, 1, 2, 9, 1, 3, 4, 5, 6, 7, 8} }

// of is a variable by chance of a type that a row asks for, or -1, if there is none.
func of(r *rand.Rand, vars []int, sign string) int {
	var l []int
	for n := range vars {
		if typeSign(vars, n) == sign {
			l = append(l, n)
		}
	}
	if len(l) == 0 {
		return -1
	}
	return l[r.Intn(len(l))]
}

// grown is a tree by chance of a kind (a Block, if it is asked for by B), of at most about so many nodes; with these variables, among them a number and a truth.
func grown(r *rand.Rand, vars []int, sign string, size int) tree {
	l := rows(sign)
	for {
		a := l[r.Intn(len(l))]
		kids := a.kids
		if one, many := strings.CutSuffix(kids, "*"); many {
			kids = strings.Repeat(one, r.Intn(1+min(6, size/3)))
		}
		x := tree{node: api.Node{Tag: a.tag, N: a.number(r, vars, len(kids))}}
		idle := a.kids == "" && size > 6 && r.Intn(4) > 0 // so that most are about as large as they may be
		if arity(x.node) < 0 || size < 2*len(kids) || idle {
			continue
		}
		for _, k := range kids {
			x.kids = append(x.kids, grown(r, vars, string(k), (size-1)/len(kids)))
		}
		return x
	}
}

// number is a number by chance that a row's node may bear, with so many kids; -1, if there is no such variable.
func (a row) number(r *rand.Rand, vars []int, kids int) int {
	switch {
	case a.of != "":
		return of(r, vars, a.of)
	case a.tag == 1:
		return int(r.Uint64()) >> r.Intn(64)
	case a.tag == 2:
		return r.Intn(2)
	case a.tag == 20:
		return kids
	}
	return 0
}

// rows are the rows of a kind.
func rows(sign string) []row {
	var l []row
	for _, a := range table() {
		if sign == "B" && a.tag == 20 || map[int]string{0: "0", 1: "1", 2: "2"}[a.kind] == sign {
			l = append(l, a)
		}
	}
	return l
}

// typed is a program by chance that is typed, of at most about so many nodes.
func typed(r *rand.Rand, size int) api.Program {
	p := api.Program{Params: r.Intn(3), Vars: []int{0, 0, 1}}
	for range r.Intn(10) {
		p.Vars = append(p.Vars, r.Intn(10))
	}
	p.Body = grown(r, p.Vars, "B", size).list()
	return p
}

// bad are nodes that may not be.
func bad() []api.Node {
	return []api.Node{{}, {Tag: 27}, {Tag: -1}, {Tag: 1 << 32}, {Tag: 1<<32 + 1}, {Tag: math.MinInt}, {Tag: math.MaxInt}, {Tag: 2, N: 2}, {Tag: 2, N: -1}, {Tag: 3, N: 12}, {Tag: 3, N: -1}, {Tag: 4, N: 12}, {Tag: 5, N: 1}, {Tag: 20, N: 201}, {Tag: 20, N: -1}, {Tag: 21, N: math.MaxInt}, {Tag: 22, N: math.MinInt}, {Tag: 26, N: 1}}
}

// chain is a node so many times, and others behind.
func chain(x api.Node, n int, behind ...api.Node) []api.Node {
	return append(slices.Repeat([]api.Node{x}, n), behind...)
}

// block is a Block of these parts.
func block(parts ...[]api.Node) []api.Node {
	return append([]api.Node{{Tag: 20, N: len(parts)}}, slices.Concat(parts...)...)
}
