package arena_test

import (
	"math/rand"
	"slices"
	"testing"

	"offshoot/api"
	"offshoot/arena"
)

// replaced holds Replace against the list that must come of it; neither list that was given is changed.
func replaced(t *testing.T, l []api.Node, at int, with, want []api.Node) {
	t.Helper()
	a, b := slices.Clone(l), slices.Clone(with)
	n := arena.Replace(l, at, with)
	if !slices.Equal(n, want) {
		t.Fatalf("Replace(%v, %d, %v): %v, not %v", a, at, b, n, want)
	}
	for i := range n {
		n[i] = api.Node{Tag: -9}
	}
	_ = append(n, api.Node{Tag: -9}, api.Node{Tag: -9})
	if !slices.Equal(l, a) || !slices.Equal(with, b) {
		t.Fatalf("Replace(%v, %d, %v) changed what it was given: %v, %v", a, at, b, l, with)
	}
	if again := arena.Replace(l, at, with); !slices.Equal(again, want) {
		t.Fatalf("Replace(%v, %d, %v), again: %v, not %v", a, at, b, again, want)
	}
}

func TestReplaceByHand(t *testing.T) {
	add, neg, one, two, skip := api.Node{Tag: 7}, api.Node{Tag: 5}, api.Node{Tag: 1, N: 1}, api.Node{Tag: 1, N: 2}, api.Node{Tag: 26}
	l := []api.Node{add, one, neg, two}
	for _, x := range []struct {
		l    []api.Node
		at   int
		with []api.Node
		want []api.Node
	}{
		{l, 0, []api.Node{skip}, []api.Node{skip}},
		{l, 1, []api.Node{neg, two}, []api.Node{add, neg, two, neg, two}},
		{l, 2, []api.Node{one}, []api.Node{add, one, one}},
		{l, 3, []api.Node{add, one, two}, []api.Node{add, one, neg, add, one, two}},
		{l, 0, nil, nil},
		{l, 1, nil, []api.Node{add, neg, two}},
		{l, 3, []api.Node{}, []api.Node{add, one, neg}},
		{l, 2, []api.Node{{}, add, {Tag: -4}}, []api.Node{add, one, {}, add, {Tag: -4}}}, // what is put in may be anything
		{l, -1, []api.Node{skip}, l},
		{l, 4, []api.Node{skip}, l},
		{l, 5, nil, l},
		{l[:3], 0, []api.Node{skip}, l[:3]},
		{l[:3], 1, []api.Node{skip}, []api.Node{add, skip, neg}},
		{l[:3], 2, []api.Node{skip}, l[:3]},
		{[]api.Node{add, one, {}}, 0, []api.Node{skip}, []api.Node{add, one, {}}},
		{[]api.Node{add, one, {}}, 1, []api.Node{skip}, []api.Node{add, skip, {}}},
		{[]api.Node{add, one, {}}, 2, []api.Node{skip}, []api.Node{add, one, {}}},
		{nil, 0, []api.Node{skip}, nil},
		{nil, -1, nil, nil},
	} {
		replaced(t, x.l, x.at, x.with, x.want)
	}
}

// with is a tree that has another one at a place, counted as nodes stand one behind the other.
func (x tree) with(at int, other tree) tree {
	if at == 0 {
		return other
	}
	at--
	x.kids = slices.Clone(x.kids)
	for i, k := range x.kids {
		if at < k.size() {
			x.kids[i] = k.with(at, other)
			break
		}
		at -= k.size()
	}
	return x
}

// What is replaced is there, and all else stays; replaced back, all is as it was.
func TestReplace(t *testing.T) {
	r := rand.New(rand.NewSource(4))
	for range 300 {
		x, y := grown(r, 1+r.Intn(60)), grown(r, 1+r.Intn(20))
		l, with := x.list(), y.list()
		for at := range l {
			want := x.with(at, y).list()
			replaced(t, l, at, with, want)
			stands(t, arena.Replace(l, at, with), at, y)
			replaced(t, want, at, arena.Part(l, at), l)
			end := arena.End(l, at)
			anything := []api.Node{{Tag: r.Intn(40) - 5}, {}, {Tag: 20, N: 7}}[:r.Intn(4)]
			replaced(t, l, at, anything, slices.Concat(l[:at], anything, l[end:]))
		}
	}
}

// Where no whole part stands the list is as it is, in memory of its own.
func TestReplaceNothing(t *testing.T) {
	r := rand.New(rand.NewSource(5))
	for range 100 {
		l := grown(r, 1+r.Intn(30)).list()
		with := grown(r, 5).list()
		cut := l[:r.Intn(len(l))]
		for _, at := range places(cut) {
			if _, ok := parse(cut, at); !ok {
				replaced(t, cut, at, with, cut)
			}
		}
	}
}

// What is put in may be a piece of the list itself, or end where more memory stands behind it: nothing of it is written to.
func TestReplaceShared(t *testing.T) {
	r := rand.New(rand.NewSource(6))
	for range 100 {
		x := grown(r, 30)
		all := append(x.list(), slices.Repeat([]api.Node{{Tag: -3}}, 50)...)
		was := slices.Clone(all)
		l := all[:x.size()]
		for at := range l {
			from := r.Intn(len(l))
			part, _ := parse(l, from)
			replaced(t, l, at, l[from:from+part.size()], x.with(at, part).list())
			replaced(t, l, at, l, x.with(at, x).list())
			if !slices.Equal(all, was) {
				t.Fatalf("%v, not %v", all, was)
			}
		}
	}
}

// Nodes are alike, one by one, and as many; no nodes are alike whether nil or empty.
func TestSame(t *testing.T) {
	r := rand.New(rand.NewSource(7))
	same := func(a, b []api.Node, want bool) {
		t.Helper()
		if arena.Same(a, b) != want || arena.Same(b, a) != want {
			t.Fatalf("%v and %v: not %v", a, b, want)
		}
	}
	same(nil, nil, true)
	same(nil, []api.Node{}, true)
	same(nil, []api.Node{{}}, false)
	for range 200 {
		l := grown(r, 30).list()
		m := slices.Clone(l)
		same(l, m, true)
		same(l, l[:len(l)-1], false)
		same(l, append(slices.Clone(l), api.Node{}), false)
		for i := range m {
			m[i].N++
			same(l, m, false)
			m[i].N--
			m[i].Tag++
			same(l, m, false)
			m[i].Tag--
		}
		same(l, m, true)
	}
	same([]api.Node{{Tag: 99, N: -4}}, []api.Node{{Tag: 99, N: -4}}, true) // they may be nodes that may not be
	same([]api.Node{{Tag: 1}, {Tag: 26}}, []api.Node{{Tag: 26}, {Tag: 1}}, false)
}
