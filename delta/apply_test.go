package delta_test

import (
	"math"
	"math/rand"
	"slices"
	"testing"

	"offshoot/api"
	"offshoot/delta"
)

// The chapter's example.
func TestExample(t *testing.T) {
	p := api.Program{Body: []api.Node{{Tag: 20, N: 1}, {Tag: 23}, {Tag: 2, N: 1}, {Tag: 20}, {Tag: 20}}}
	q, e := delta.Apply(p, api.Delta{Path: []int{0}, Op: api.OpNegate})
	if want := []api.Node{{Tag: 20, N: 1}, {Tag: 23}, {Tag: 6}, {Tag: 2, N: 1}, {Tag: 20}, {Tag: 20}}; e != api.OK || q.Params != 0 || len(q.Vars) != 0 || !slices.Equal(q.Body, want) {
		t.Errorf("%v %v", q, e)
	}
}

// hand is a program with each operator's nodes: if (v0 < 5 and true) {v3[1] = v0 / 2} else {v1 = 7; skip}; while not v2 {}; return -(v0 + 3).
func hand() api.Program {
	return api.Program{Params: 1, Vars: []int{0, 0, 1, 4}, Body: []api.Node{
		{Tag: 20, N: 3},
		{Tag: 23}, {Tag: 18}, {Tag: 14}, {Tag: 3}, {Tag: 1, N: 5}, {Tag: 2, N: 1},
		{Tag: 20, N: 1}, {Tag: 22, N: 3}, {Tag: 1, N: 1}, {Tag: 10}, {Tag: 3}, {Tag: 1, N: 2},
		{Tag: 20, N: 2}, {Tag: 21, N: 1}, {Tag: 1, N: 7}, {Tag: 26},
		{Tag: 24}, {Tag: 6}, {Tag: 3, N: 2}, {Tag: 20},
		{Tag: 25}, {Tag: 5}, {Tag: 7}, {Tag: 3}, {Tag: 1, N: 3},
	}}
}

// What is done, told by hand: from a place on, some nodes are gone, and others stand there; all ahead and behind, Params and Vars stay.
func TestByHand(t *testing.T) {
	for _, x := range []struct {
		path     []int
		op, n    int
		at, gone int
		instead  []api.Node
	}{
		{[]int{0, 1, 0, 1}, 1, 11, 10, 1, []api.Node{{Tag: 11}}},
		{[]int{2, 0, 0}, 1, 8, 23, 1, []api.Node{{Tag: 8}}},
		{[]int{0, 0, 0}, 2, 12, 3, 1, []api.Node{{Tag: 12}}},
		{[]int{0, 0}, 3, 19, 2, 1, []api.Node{{Tag: 19}}},
		{[]int{0, 0, 0, 1}, 4, -5, 5, 1, []api.Node{{Tag: 1, N: -5}}},
		{[]int{2, 0, 0, 1}, 4, 0, 25, 1, []api.Node{{Tag: 1}}},
		{[]int{0, 0, 1}, 4, 0, 6, 1, []api.Node{{Tag: 2}}},
		{[]int{0}, 5, 0, 1, 16, []api.Node{{Tag: 26}}},
		{[]int{0, 1, 0}, 5, 0, 8, 5, []api.Node{{Tag: 26}}},
		{[]int{0, 2, 0}, 5, 0, 14, 2, []api.Node{{Tag: 26}}},
		{[]int{1}, 5, 0, 17, 4, []api.Node{{Tag: 26}}},
		{[]int{2}, 5, 0, 21, 5, []api.Node{{Tag: 26}}},
		{[]int{0}, 6, 0, 2, 0, []api.Node{{Tag: 6}}},
		{[]int{1}, 6, 0, 18, 0, []api.Node{{Tag: 6}}},
		{[]int{2}, 7, 40, 22, 4, []api.Node{{Tag: 1, N: 40}}},
	} {
		p := hand()
		want := p
		want.Body = slices.Concat(p.Body[:x.at], x.instead, p.Body[x.at+x.gone:])
		applied(t, p, api.Delta{Path: x.path, Op: x.op, N: x.n}, want, api.OK)
	}
}

// site is a program's tree, and a path in it.
type site struct {
	whole tree
	path  []int
}

// around are sites at which a tree stands: alone, so that it is the whole program and its path is empty; as the first kid, in between, and the last one; and below others.
func around(x tree) []site {
	set, back := of(21, 3, of(7, 0, of(3, 0), of(1, 9))), of(25, 0, of(1, 1))
	first, middle, last := block(x, set, back), block(set, x, back), block(set, back, x)
	pair := of(18, 0, x, of(2, 1))
	below := block(of(26, 0), of(23, 0, pair, block(x, set), block(set, back)), back)
	return []site{{x, nil}, {first, []int{0}}, {middle, []int{1}}, {last, []int{2}}, {pair, []int{0}}, {below, []int{1, 1, 0}}, {below, []int{1, 0, 0}}}
}

// Each operator at each tag, with each number that it lets, and others: just what the chapter's table has, wherever the node stands.
func TestTable(t *testing.T) {
	r := rand.New(rand.NewSource(1))
	let := map[[2]int]int{}
	for tag := 1; tag <= 26; tag++ {
		for _, s := range around(bearing(r, tag)) {
			for _, op := range ops() {
				for _, n := range numbers() {
					if hold(t, s.whole, api.Delta{Path: s.path, Op: op, N: n}) {
						let[[2]int{op, tag}]++
					}
				}
			}
		}
	}
	want := map[[2]int]int{}
	for _, x := range rows() {
		for tag := x.firstTag; tag <= x.lastTag; tag++ {
			for _, n := range numbers() {
				if x.least <= n && n <= x.most {
					want[[2]int{x.op, tag}] += len(around(tree{}))
				}
			}
		}
	}
	for k, n := range want {
		if let[k] != n {
			t.Errorf("operator %d at tag %d: %d were let, not %d", k[0], k[1], let[k], n)
		}
	}
	if len(let) != len(want) || len(want) != 5+6+2+2+5+2+1 {
		t.Errorf("%d, and %d", len(let), len(want))
	}
}

// Trees by chance: each operator at each node.
func TestTrees(t *testing.T) {
	r := rand.New(rand.NewSource(2))
	let := 0
	for range 150 {
		x := grown(r, 1+r.Intn(150))
		for _, path := range x.paths(nil) {
			for op := range 9 {
				n := numbers()[r.Intn(len(numbers()))]
				for _, n := range []int{0, n, 7 + r.Intn(13)} {
					if hold(t, x, api.Delta{Path: path, Op: op, N: n}) {
						let++
					}
				}
			}
		}
	}
	if let < 5000 {
		t.Errorf("%d were let only", let)
	}
}

// What changed a node's tag or its number is changed back by a delta at the same path, and all is as it was.
func TestChangedBack(t *testing.T) {
	r := rand.New(rand.NewSource(3))
	back := map[int]int{}
	for range 200 {
		x := grown(r, 1+r.Intn(100))
		p := api.Program{Params: r.Intn(3), Vars: []int{0, 0, 5}, Body: x.list()}
		for _, path := range x.paths(nil) {
			y, _ := x.below(path)
			for op, n := range map[int]int{1: 7 + r.Intn(5), 2: 12 + r.Intn(6), 3: 18 + r.Intn(2), 4: r.Intn(2)} {
				was := y.node.Tag
				if op == 4 {
					was = y.node.N
				}
				q, e := delta.Apply(p, api.Delta{Path: path, Op: op, N: n})
				if e != api.OK {
					continue
				}
				applied(t, q, api.Delta{Path: path, Op: op, N: was}, p, api.OK)
				applied(t, q, api.Delta{Path: path, Op: op, N: n}, q, api.OK) // and once more: it stays
				back[op]++
			}
		}
	}
	for op := 1; op <= 4; op++ {
		if back[op] < 100 {
			t.Errorf("operator %d: %d only", op, back[op])
		}
	}
}

// A number that is the same as it was: the program stays, and is one of its own.
func TestSameNumber(t *testing.T) {
	for tag := 7; tag <= 19; tag++ {
		op := 1
		if tag >= 18 {
			op = 3
		} else if tag >= 12 {
			op = 2
		}
		p := api.Program{Vars: []int{2}, Body: []api.Node{{Tag: tag}, {Tag: 3}, {Tag: 3}}}
		applied(t, p, api.Delta{Op: op, N: tag}, p, api.OK)
	}
	for _, x := range []api.Node{{Tag: 1}, {Tag: 1, N: -1}, {Tag: 1, N: math.MinInt}, {Tag: 1, N: math.MaxInt}, {Tag: 2}, {Tag: 2, N: 1}} {
		p := api.Program{Body: []api.Node{x}}
		applied(t, p, api.Delta{Op: 4, N: x.N}, p, api.OK)
	}
	p := api.Program{Body: []api.Node{{Tag: 25}, {Tag: 1, N: 8}}}
	applied(t, p, api.Delta{Op: 7, N: 8}, p, api.OK)
}

// OpConst: of Int the least and the greatest number there is, of Bool 0 and 1.
func TestConst(t *testing.T) {
	ints := []int{math.MinInt, math.MinInt + 1, -1 << 32, -1, 0, 1, 2, 200, 1 << 32, math.MaxInt - 1, math.MaxInt}
	for _, from := range ints {
		for _, to := range ints {
			x := of(25, 0, of(8, 0, of(1, from), of(1, from)))
			hold(t, x, api.Delta{Path: []int{0, 0}, Op: 4, N: to})
			want := api.Program{Body: []api.Node{{Tag: 25}, {Tag: 8}, {Tag: 1, N: from}, {Tag: 1, N: to}}}
			applied(t, api.Program{Body: x.list()}, api.Delta{Path: []int{0, 1}, Op: 4, N: to}, want, api.OK)
		}
		for b := range 2 {
			x := of(2, b)
			p := api.Program{Body: x.list()}
			if want, e := told(p, x, api.Delta{Op: 4, N: from}); (e == api.OK) != (from == 0 || from == 1) {
				t.Errorf("%v %v", want, e)
			}
			hold(t, x, api.Delta{Op: 4, N: from})
		}
	}
}

// large is a tree of so many nodes: a row of tags down the first kids, with a leaf as each second one.
func large(tag, n int, leaf tree) tree {
	x := leaf
	for range n / 2 {
		x = of(tag, 0, x, leaf)
	}
	return x
}

// OpNegate of If and of While, with small conditions and large ones, and once more of what was changed.
func TestNegate(t *testing.T) {
	for _, size := range []int{1, 2, 3, 51, 190, 1001} {
		condition := large(18, size, of(2, 1))
		for _, x := range []tree{of(23, 0, condition, block(of(26, 0)), block(of(25, 0, of(1, 2)))), of(24, 0, condition, block(of(26, 0), of(26, 0)))} {
			once := of(x.node.Tag, 0, append([]tree{of(6, 0, condition)}, x.kids[1:]...)...)
			for _, s := range around(x) {
				d := api.Delta{Path: s.path, Op: api.OpNegate}
				changed := s.whole.with(s.path, once)
				if !hold(t, s.whole, d) || !hold(t, changed, d) {
					t.Fatalf("%v at %v", s.whole, s.path)
				}
				if d.Path = slices.Concat(s.path, []int{0}); hold(t, changed, d) {
					t.Fatalf("a Not was negated at %v", d.Path)
				}
			}
		}
	}
}

// OpReturn of a Return whose kid is a single node, an Int, and a large one; and OpDelete of it.
func TestReturn(t *testing.T) {
	for _, kid := range []tree{of(1, 0), of(1, 1), of(1, math.MinInt), of(3, 11), of(2, 1), of(26, 0), of(4, 2, of(3, 0)), of(5, 0, of(5, 0, of(1, 3))), large(7, 190, of(3, 2)), large(7, 2000, of(1, 4)), block(of(26, 0), of(26, 0))} {
		for _, s := range around(of(25, 0, kid)) {
			for _, n := range []int{0, 1, -1, 25, math.MinInt, math.MaxInt} {
				if !hold(t, s.whole, api.Delta{Path: s.path, Op: api.OpReturn, N: n}) {
					t.Fatalf("%v at %v", s.whole, s.path)
				}
			}
			hold(t, s.whole, api.Delta{Path: s.path, Op: api.OpDelete})
		}
	}
}

// OpDelete of what is small, and of what is large; of one of many; and of all of a program.
func TestDelete(t *testing.T) {
	small := []tree{of(21, 0, of(1, 0)), of(22, 11, of(1, 0), of(1, 0)), of(23, 0, of(2, 0), block(), block()), of(24, 0, of(2, 0), block()), of(25, 0, of(1, 0))}
	sum := large(7, 500, of(3, 2))
	great := []tree{of(21, 0, sum), of(22, 11, sum, sum), of(23, 0, large(18, 300, of(2, 0)), block(small...), block(slices.Repeat(small, 39)...)), of(24, 0, of(2, 0), block(slices.Repeat(small, 40)...)), of(25, 0, sum)}
	for _, x := range slices.Concat(small, great) {
		for _, s := range around(x) {
			if !hold(t, s.whole, api.Delta{Path: s.path, Op: api.OpDelete}) {
				t.Fatalf("%v at %v", s.whole, s.path)
			}
		}
		applied(t, api.Program{Vars: []int{7}, Body: x.list()}, api.Delta{Op: api.OpDelete}, api.Program{Vars: []int{7}, Body: []api.Node{{Tag: 26}}}, api.OK)
	}
	many := block(slices.Repeat(small, 40)...)
	for i := range 200 {
		if !hold(t, many, api.Delta{Path: []int{i}, Op: api.OpDelete}) {
			t.Fatalf("%d of 200", i)
		}
	}
	hold(t, many, api.Delta{Path: []int{200}, Op: api.OpDelete})
}

// Whether a program is typed is not asked: Params and Vars of any kind stay, and so do bodies that are beyond limits.
func TestUntyped(t *testing.T) {
	for _, vars := range [][]int{nil, {}, {0}, {-1}, {10, math.MaxInt}, {math.MinInt, 1, 1}, make([]int, 13), make([]int, 1000)} {
		for _, params := range []int{math.MinInt, -1, 0, 1, 2, 13, math.MaxInt} {
			x := of(25, 0, of(18, 0, of(26, 0), block()))
			p := api.Program{Params: params, Vars: vars, Body: x.list()}
			for _, d := range []api.Delta{{Op: 5}, {Op: 7, N: 3}, {Path: []int{0}, Op: 3, N: 19}, {Path: []int{0}, Op: 3}, {Path: []int{2}, Op: 3}} {
				want, e := told(p, x, d)
				applied(t, p, d, want, e)
				if q, f := delta.Apply(api.Program{Params: params, Vars: vars, Body: p.Body}, d); f != e || !alike(q, want) {
					t.Errorf("%v by %v: %v %v", p, d, q, f)
				}
			}
		}
	}
	row := block(slices.Repeat([]tree{of(25, 0, of(1, 7))}, 200)...)
	x := block(slices.Repeat([]tree{row}, 200)...)
	for _, path := range [][]int{{0, 0}, {127, 128}, {199, 0}, {199, 199}} {
		for _, d := range []api.Delta{{Path: path, Op: 7, N: 8}, {Path: path, Op: 5}, {Path: slices.Concat(path, []int{0}), Op: 4, N: -7}} {
			if !hold(t, x, d) {
				t.Errorf("%v is none", d)
			}
		}
	}
}

// Bodies as deep as parts may be nested: each call ends, with what is so.
func TestDeep(t *testing.T) {
	const n = 1 << 16
	chain := slices.Repeat([]api.Node{{Tag: 5}}, n-2)
	p := api.Program{Body: slices.Concat([]api.Node{{Tag: 25}}, chain, []api.Node{{Tag: 7}, {Tag: 1, N: 4}, {Tag: 1, N: 5}})}
	zeros := make([]int, n-1)
	deep := func(d api.Delta, at, gone int, instead ...api.Node) {
		t.Helper()
		q, e := delta.Apply(p, d)
		if want := slices.Concat(p.Body[:at], instead, p.Body[at+gone:]); e != api.OK || !slices.Equal(q.Body, want) {
			t.Errorf("operator %d, %d deep: %v", d.Op, len(d.Path), e)
		}
	}
	deep(api.Delta{Path: zeros, Op: 1, N: 9}, n-1, 1, api.Node{Tag: 9})
	deep(api.Delta{Path: slices.Concat(zeros, []int{1}), Op: 4, N: 6}, n+1, 1, api.Node{Tag: 1, N: 6})
	deep(api.Delta{Op: 7, N: 6}, 1, n+1, api.Node{Tag: 1, N: 6})
	deep(api.Delta{Op: 5}, 0, n+2, api.Node{Tag: 26})
	p.Body = slices.Concat([]api.Node{{Tag: 24}}, chain, []api.Node{{Tag: 2}, {Tag: 20}})
	deep(api.Delta{Op: 6}, 1, 0, api.Node{Tag: 6})
	p.Body = append(slices.Repeat([]api.Node{{Tag: 24}, {Tag: 2, N: 1}}, n), api.Node{Tag: 20})
	ones := slices.Repeat([]int{1}, n-1)
	deep(api.Delta{Path: ones, Op: 6}, 2*n-1, 0, api.Node{Tag: 6})
	deep(api.Delta{Path: ones, Op: 5}, 2*n-2, 3, api.Node{Tag: 26})
	deep(api.Delta{Path: ones[1:], Op: 5}, 2*n-4, 5, api.Node{Tag: 26})
	if q, e := delta.Apply(p, api.Delta{Path: slices.Concat(ones, ones), Op: 6}); e != api.ErrPath || !alike(q, api.Program{}) {
		t.Errorf("a path far longer: %v", e)
	}
}
