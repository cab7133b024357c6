package catalog_test

import (
	"math"
	"slices"
	"testing"

	"offshoot/api"
)

// places are those that no list has, and those just outside of a list of n nodes.
func places(n int) []int {
	return []int{-1, -2, -n, -n - 1, n, n + 1, n + 200, math.MinInt, math.MinInt + 1, math.MaxInt - 1, math.MaxInt, 1 << 32, -1 << 32, math.MinInt + n}
}

// No nodes at all, and places outside of a list: none.
func TestNoNode(t *testing.T) {
	for _, l := range [][]api.Node{nil, {}, {{Tag: 1}}, {{Tag: 25}, {Tag: 1}}, {{Tag: 20, N: 2}, {Tag: 2}, {Tag: 25}, {Tag: 3}}} {
		for _, at := range places(len(l)) {
			if at < 0 || at >= len(l) {
				given(t, l, at, nil)
				asked(t, l, at, 0, nil)
			}
		}
	}
}

// A tag that there is not: none, wherever it stands; nor are there any at what it is below of.
func TestNoTag(t *testing.T) {
	tags := []int{0, 27, 28, -1, -25, math.MinInt, math.MinInt + 7, math.MaxInt, 1 << 8, 1<<32 + 1}
	for tag := 1; tag <= 26; tag++ {
		tags = append(tags, tag+32, tag+1<<8, tag-1<<8, tag+1<<32, -tag)
	}
	for _, tag := range tags {
		for _, s := range around(of(tag, 0, of(1, 1), of(1, 1), of(1, 1))) {
			given(t, s.l, s.at, nil)
			asked(t, s.l, s.at, 0, nil)
		}
		for _, up := range []int{7, 12, 18, 21, 22, 23, 24, 25} {
			l := []api.Node{{Tag: up}, {Tag: tag}, {Tag: 1}, {Tag: 1}, {Tag: 1}}
			given(t, l, 0, nil)
			asked(t, l, 0, 0, nil)
		}
	}
}

// An N that its tag may not have: none, nor at what it is below of.
func TestNoNumber(t *testing.T) {
	for tag := 2; tag <= 26; tag++ {
		for _, n := range []int{-1, most(tag) + 1, most(tag) + 2, math.MinInt, math.MaxInt, 1 << 32, most(tag) - 1<<32} {
			own := of(tag, n, of(1, 0), of(1, 0), of(1, 0))
			for _, s := range around(own) {
				given(t, s.l, s.at, nil)
			}
			asked(t, own.list(), 0, n, nil)
			given(t, []api.Node{{Tag: 25}, {Tag: tag, N: n}, {Tag: 1}, {Tag: 1}, {Tag: 1}}, 0, nil)
		}
	}
}

// Kids that are missing: none, whatever the tag, by however many, at the list's end or ahead of what may not be.
func TestNoKids(t *testing.T) {
	for tag := 1; tag <= 26; tag++ {
		n, owed := 0, kids(tag)
		if tag == 20 {
			n, owed = 4, 4
		}
		for there := range owed {
			l := slices.Concat([]api.Node{{Tag: tag, N: n}}, slices.Repeat([]api.Node{{Tag: 1, N: 1}}, there))
			for _, behind := range [][]api.Node{nil, {{Tag: 0}}, {{Tag: 2, N: 2}, {Tag: 1}}, {{Tag: 20, N: 1}}, {{Tag: 5}}} {
				whole := slices.Concat([]api.Node{{Tag: 1}}, l, behind)
				given(t, whole, 1, nil)
				asked(t, whole, 1, n, nil)
			}
		}
	}
}

// What is below a node may not be, however deep: none there, but the nodes beside that have theirs.
func TestWrongBelow(t *testing.T) {
	wrong := of(7, 0, of(1, 3), of(27, 0))
	x := block(of(21, 0, of(1, 2)), of(23, 0, of(2, 1), block(of(25, 0, of(5, 0, wrong))), block()), of(25, 0, of(1, 1)))
	l := x.list()
	for at, y := range x.all() {
		below := slices.ContainsFunc(y.list(), func(n api.Node) bool { return n.Tag == 27 })
		if c := hold(t, l, at); below && len(c) != 0 {
			t.Errorf("%v at %d", c, at)
		}
	}
	given(t, l, 1, []api.Delta{{Op: 5}})
	given(t, l, 2, []api.Delta{{Op: 4, N: -1}, {Op: 4}, {Op: 4, N: 1}, {Op: 4, N: 3}})
	given(t, l, len(l)-2, []api.Delta{{Op: 5}, {Op: 7}})
}

// Is with each operator and with numbers just beside those of a choice, told by hand.
func TestBeside(t *testing.T) {
	for _, x := range []struct {
		l      []api.Node
		op     int
		is, no []int
	}{
		{[]api.Node{{Tag: 9}, {Tag: 3}, {Tag: 3}}, 1, []int{7, 8, 10, 11}, []int{6, 9, 12, 0, -7}},
		{[]api.Node{{Tag: 12}, {Tag: 3}, {Tag: 3}}, 2, []int{13, 14, 15, 16, 17}, []int{11, 12, 18, 0}},
		{[]api.Node{{Tag: 18}, {Tag: 3}, {Tag: 3}}, 3, []int{19}, []int{17, 18, 20, 0, 1}},
		{[]api.Node{{Tag: 1, N: 40}}, 4, []int{-1, 0, 1, 39, 41}, []int{-2, 2, 38, 40, 42, -40, -39}},
		{[]api.Node{{Tag: 1, N: math.MinInt}}, 4, []int{-1, 0, 1, math.MinInt + 1, math.MaxInt}, []int{math.MinInt, math.MinInt + 2, math.MaxInt - 1}},
		{[]api.Node{{Tag: 2}}, 4, []int{1}, []int{-1, 0, 2}},
		{[]api.Node{{Tag: 2, N: 1}}, 4, []int{0}, []int{-1, 1, 2}},
		{[]api.Node{{Tag: 21}, {Tag: 3}}, 5, []int{0}, []int{-1, 1, 21}},
		{[]api.Node{{Tag: 24}, {Tag: 2}, {Tag: 20}}, 6, []int{0}, []int{-1, 1, 24}},
		{[]api.Node{{Tag: 25}, {Tag: 3}}, 7, []int{0, 1}, []int{-1, 2, 25}},
		{[]api.Node{{Tag: 25}, {Tag: 1}}, 7, []int{1}, []int{-1, 0, 2}},
	} {
		var want []api.Delta
		for _, n := range x.is {
			want = append(want, api.Delta{Op: x.op, N: n})
		}
		if x.op == 6 || x.op == 7 {
			want = append(want, api.Delta{Op: 5})
		}
		asked(t, x.l, 0, x.l[0].N, want)
		for _, n := range x.no {
			asked(t, x.l, 0, n, want)
		}
	}
}
