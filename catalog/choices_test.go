package catalog_test

import (
	"math"
	"math/rand"
	"slices"
	"testing"

	"offshoot/api"
	"offshoot/catalog"
)

// hand is a tree, and its choices by hand: pairs of an operator and a number.
type hand struct {
	x    tree
	want [][2]int
}

// byHand are trees of each tag from 1 to 26.
func byHand() []hand {
	one, yes, v := of(1, 1), of(2, 1), of(3, 0)
	return []hand{
		{of(1, 0), [][2]int{{4, -1}, {4, 1}}}, // the chapter's example
		{of(1, 1), [][2]int{{4, -1}, {4, 0}, {4, 2}}},
		{of(1, -1), [][2]int{{4, -2}, {4, 0}, {4, 1}}},
		{of(1, 2), [][2]int{{4, -1}, {4, 0}, {4, 1}, {4, 3}}},
		{of(1, -2), [][2]int{{4, -3}, {4, -1}, {4, 0}, {4, 1}}},
		{of(1, 3), [][2]int{{4, -1}, {4, 0}, {4, 1}, {4, 2}, {4, 4}}},
		{of(1, -300), [][2]int{{4, -301}, {4, -299}, {4, -1}, {4, 0}, {4, 1}}},
		{of(1, math.MaxInt), [][2]int{{4, math.MinInt}, {4, -1}, {4, 0}, {4, 1}, {4, math.MaxInt - 1}}},
		{of(1, math.MinInt), [][2]int{{4, math.MinInt + 1}, {4, -1}, {4, 0}, {4, 1}, {4, math.MaxInt}}},
		{of(1, math.MaxInt-1), [][2]int{{4, -1}, {4, 0}, {4, 1}, {4, math.MaxInt - 2}, {4, math.MaxInt}}},
		{of(2, 0), [][2]int{{4, 1}}}, {of(2, 1), [][2]int{{4, 0}}},
		{of(3, 0), nil}, {of(3, 11), nil}, {of(4, 2, one), nil}, {of(5, 0, one), nil}, {of(6, 0, yes), nil},
		{of(7, 0, one, v), [][2]int{{1, 8}, {1, 9}, {1, 10}, {1, 11}}},
		{of(8, 0, one, v), [][2]int{{1, 7}, {1, 9}, {1, 10}, {1, 11}}},
		{of(9, 0, one, v), [][2]int{{1, 7}, {1, 8}, {1, 10}, {1, 11}}},
		{of(10, 0, one, v), [][2]int{{1, 7}, {1, 8}, {1, 9}, {1, 11}}},
		{of(11, 0, one, v), [][2]int{{1, 7}, {1, 8}, {1, 9}, {1, 10}}},
		{of(12, 0, one, v), [][2]int{{2, 13}, {2, 14}, {2, 15}, {2, 16}, {2, 17}}},
		{of(13, 0, one, v), [][2]int{{2, 12}, {2, 14}, {2, 15}, {2, 16}, {2, 17}}},
		{of(14, 0, one, v), [][2]int{{2, 12}, {2, 13}, {2, 15}, {2, 16}, {2, 17}}},
		{of(15, 0, one, v), [][2]int{{2, 12}, {2, 13}, {2, 14}, {2, 16}, {2, 17}}},
		{of(16, 0, one, v), [][2]int{{2, 12}, {2, 13}, {2, 14}, {2, 15}, {2, 17}}},
		{of(17, 0, one, v), [][2]int{{2, 12}, {2, 13}, {2, 14}, {2, 15}, {2, 16}}},
		{of(18, 0, yes, yes), [][2]int{{3, 19}}}, {of(19, 0, yes, yes), [][2]int{{3, 18}}},
		{block(), nil}, {block(of(26, 0), of(25, 0, one)), nil},
		{of(21, 0, one), [][2]int{{5, 0}}}, {of(21, 11, v), [][2]int{{5, 0}}}, {of(22, 3, one, v), [][2]int{{5, 0}}},
		{of(23, 0, yes, block(), block()), [][2]int{{5, 0}, {6, 0}}}, {of(24, 0, yes, block()), [][2]int{{5, 0}, {6, 0}}},
		{of(25, 0, of(1, 0)), [][2]int{{5, 0}, {7, 1}}},
		{of(25, 0, of(1, 1)), [][2]int{{5, 0}, {7, 0}}}, // the chapter's example
		{of(25, 0, of(1, 2)), [][2]int{{5, 0}, {7, 0}, {7, 1}}},
		{of(25, 0, of(1, -1)), [][2]int{{5, 0}, {7, 0}, {7, 1}}},
		{of(25, 0, of(2, 0)), [][2]int{{5, 0}, {7, 0}, {7, 1}}},
		{of(25, 0, of(2, 1)), [][2]int{{5, 0}, {7, 0}, {7, 1}}},
		{of(25, 0, of(3, 0)), [][2]int{{5, 0}, {7, 0}, {7, 1}}},
		{of(25, 0, of(3, 1)), [][2]int{{5, 0}, {7, 0}, {7, 1}}},
		{of(25, 0, of(26, 0)), [][2]int{{5, 0}, {7, 0}, {7, 1}}},
		{of(25, 0, block()), [][2]int{{5, 0}, {7, 0}, {7, 1}}},
		{of(25, 0, block(one)), [][2]int{{5, 0}, {7, 0}, {7, 1}}},
		{of(25, 0, of(5, 0, one)), [][2]int{{5, 0}, {7, 0}, {7, 1}}},
		{of(25, 0, of(4, 1, of(1, 0))), [][2]int{{5, 0}, {7, 0}, {7, 1}}},
		{of(25, 0, of(7, 0, of(1, 0), one)), [][2]int{{5, 0}, {7, 0}, {7, 1}}},
		{of(26, 0), nil},
	}
}

// What is listed by hand is what is told, wherever the node stands, whatever is ahead and behind.
func TestByHand(t *testing.T) {
	seen := map[int]bool{}
	for _, h := range byHand() {
		seen[h.x.node.Tag] = true
		var want []api.Delta
		for _, w := range h.want {
			want = append(want, api.Delta{Op: w[0], N: w[1]})
		}
		for _, s := range around(h.x) {
			given(t, s.l, s.at, want)
			asked(t, s.l, s.at, h.x.node.N, want)
		}
	}
	for tag := 1; tag <= 26; tag++ {
		if !seen[tag] {
			t.Errorf("tag %d is not asked", tag)
		}
	}
}

// Each tag, its number and all below it by chance.
func TestTags(t *testing.T) {
	r := rand.New(rand.NewSource(1))
	for tag := 1; tag <= 26; tag++ {
		for range 6 {
			for _, s := range around(bearing(r, tag, r.Intn(9))) {
				hold(t, s.l, s.at)
			}
		}
	}
}

// Int of each number about 0, about each power of two, and about the least and the greatest one.
func TestInts(t *testing.T) {
	var l []int
	for n := -20; n <= 20; n++ {
		l = append(l, n, int(uint(math.MaxInt)+uint(n)))
	}
	for k := range 63 {
		l = append(l, 1<<k, 1<<k-1, 1<<k+1, -1<<k, -1<<k+1, -1<<k-1)
	}
	for _, n := range l {
		want := 5 // 0, 1, -1, and those beside it, less what is there twice
		switch n {
		case 0:
			want = 2
		case 1, -1:
			want = 3
		case 2, -2:
			want = 4
		}
		if c := hold(t, []api.Node{{Tag: 1, N: n}}, 0); len(c) != want {
			t.Errorf("Int %d: %v", n, c)
		}
		hold(t, []api.Node{{Tag: 5}, {Tag: 1, N: n}}, 1)
		hold(t, []api.Node{{Tag: 25}, {Tag: 1, N: n}}, 0)
	}
}

// row is a tree of so many nodes, about: a tag down the first kids, with a leaf as each second one.
func row(tag, n int, leaf tree) tree {
	x := leaf
	for range n / 2 {
		x = of(tag, 0, x, leaf)
	}
	return x
}

// If, While and Return of small parts, and of large ones.
func TestLarge(t *testing.T) {
	for _, size := range []int{1, 2, 3, 51, 190, 1001} {
		condition, sum := row(18, size, of(2, 1)), row(7, size, of(1, 0))
		for _, x := range []tree{
			of(23, 0, condition, block(), block(of(25, 0, sum))), of(23, 0, of(6, 0, condition), block(of(26, 0)), block()),
			of(24, 0, condition, block()), of(24, 0, of(3, 0), block(of(21, 0, sum), of(25, 0, sum))),
			of(25, 0, sum), of(25, 0, of(5, 0, sum)), of(21, 4, sum), of(22, 4, sum, sum), of(12, 0, sum, sum), condition, sum, block(of(25, 0, sum)),
		} {
			for _, s := range around(x) {
				hold(t, s.l, s.at)
			}
		}
	}
}

// All short lists of nodes of each tag, and of some that may not be, at each place and just outside.
func TestShortLists(t *testing.T) {
	nodes := []api.Node{{Tag: 1, N: 1}, {Tag: 1, N: 5}, {Tag: 2, N: 2}, {Tag: 20, N: 1}, {Tag: 20, N: 2}, {Tag: 25, N: 1}, {Tag: 0}, {Tag: 27}}
	for tag := 1; tag <= 26; tag++ {
		nodes = append(nodes, api.Node{Tag: tag})
	}
	told := 0
	for _, a := range nodes {
		for _, b := range nodes {
			for _, c := range nodes {
				whole := []api.Node{a, b, c}
				for n := range 4 {
					for at := -1; at <= n; at++ {
						x, _, ok := parsed(whole[:n], at)
						var want []api.Delta
						if ok {
							want = listed(x)
						}
						if c := catalog.Choices(whole[:n], at); !alike(c, want) {
							t.Fatalf("Choices(%v, %d): %v, not %v", whole[:n], at, c, want)
						}
						told += len(want)
					}
				}
			}
		}
	}
	if told < 10000 {
		t.Errorf("%d only", told)
	}
}

// Trees by chance: each node of each.
func TestTrees(t *testing.T) {
	r := rand.New(rand.NewSource(2))
	let := map[int]int{}
	for range 60 {
		x := grown(r, 1+r.Intn(120))
		l := x.list()
		for at, y := range x.all() {
			given(t, l, at, listed(y))
			for _, d := range hold(t, l, at) {
				let[d.Op]++
			}
		}
	}
	for op := 1; op <= 7; op++ {
		if let[op] < 100 {
			t.Errorf("operator %d: %d only", op, let[op])
		}
	}
}

// What is told hangs on the node and on what is below it alone: whatever else is changed, cut off ahead, or put behind, it stays.
func TestAlone(t *testing.T) {
	r := rand.New(rand.NewSource(3))
	for range 300 {
		x := bearing(r, 1+r.Intn(26), r.Intn(12))
		own := x.list()
		want := catalog.Choices(own, 0)
		for range 5 {
			ahead, behind := strange(r), strange(r)
			given(t, slices.Concat(ahead, own, behind), len(ahead), want)
		}
	}
}

// strange are nodes by chance, those that may be and others.
func strange(r *rand.Rand) []api.Node {
	l := make([]api.Node, r.Intn(6))
	for i := range l {
		l[i] = api.Node{Tag: r.Intn(30) - 1, N: r.Intn(4) - 1}
	}
	return l
}

// Lists as deep as parts may be nested, and long ones: each call ends, with what is so.
func TestDeep(t *testing.T) {
	const n = 1 << 16
	down := func(head, tag int, last ...api.Node) []api.Node {
		return slices.Concat([]api.Node{{Tag: head}}, slices.Repeat([]api.Node{{Tag: tag}}, n-2), last)
	}
	one := api.Node{Tag: 1, N: 1}
	for _, x := range []struct {
		l    []api.Node
		at   int
		want []api.Delta
	}{
		{down(25, 5, one), 0, []api.Delta{{Op: 5}, {Op: 7}, {Op: 7, N: 1}}},
		{down(25, 25, one), n - 2, []api.Delta{{Op: 5}, {Op: 7}}},
		{down(25, 25, one), 7, []api.Delta{{Op: 5}, {Op: 7}, {Op: 7, N: 1}}},
		{down(25, 25, one), n - 1, []api.Delta{{Op: 4, N: -1}, {Op: 4}, {Op: 4, N: 2}}},
		{down(24, 6, api.Node{Tag: 2}, api.Node{Tag: 20}), 0, []api.Delta{{Op: 5}, {Op: 6}}},
		{down(24, 6, api.Node{Tag: 2}), 0, nil},
		{down(25, 5), 0, nil},
		{down(18, 18, slices.Repeat([]api.Node{{Tag: 2}}, n)...), 0, []api.Delta{{Op: 3, N: 19}}},
		{down(7, 7, slices.Repeat([]api.Node{one}, n)...), n - 2, []api.Delta{{Op: 1, N: 8}, {Op: 1, N: 9}, {Op: 1, N: 10}, {Op: 1, N: 11}}},
		{slices.Repeat([]api.Node{one}, 1<<20), 1<<20 - 1, []api.Delta{{Op: 4, N: -1}, {Op: 4}, {Op: 4, N: 2}}},
		{slices.Repeat([]api.Node{{Tag: 24}}, 1<<20), 0, nil},
	} {
		given(t, x.l, x.at, x.want)
		for op := range 9 {
			for _, n := range []int{-2, -1, 0, 1, 2, 7, 8, 9, 11, 19} {
				if is := slices.ContainsFunc(x.want, func(d api.Delta) bool { return d.Op == op && d.N == n }); catalog.Is(x.l, x.at, op, n) != is {
					t.Errorf("Is(%v, %d, %d, %d) is not %v", short(x.l), x.at, op, n, is)
				}
			}
		}
	}
}
