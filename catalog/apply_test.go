package catalog_test

import (
	"math/rand"
	"slices"
	"testing"

	"offshoot/api"
	"offshoot/arena"
	"offshoot/catalog"
	"offshoot/delta"
)

// applied is the part at a place, changed by a choice. It must be let.
func applied(t *testing.T, l []api.Node, at int, d api.Delta) []api.Node {
	t.Helper()
	p, e := delta.Apply(api.Program{Body: arena.Part(l, at)}, d)
	if e != api.OK {
		t.Fatalf("%v can't be applied to %v: %v", d, arena.Part(l, at), e)
	}
	return p.Body
}

// Each choice can be applied, and is another program; no two come to one, and each is there once.
func TestOtherPrograms(t *testing.T) {
	r := rand.New(rand.NewSource(4))
	var sites []site
	for _, h := range byHand() {
		sites = append(sites, around(h.x)...)
	}
	for range 100 {
		l := grown(r, 1+r.Intn(60)).list()
		for at := range l {
			sites = append(sites, site{l, at})
		}
	}
	for _, s := range sites {
		c := catalog.Choices(s.l, s.at)
		bodies := [][]api.Node{arena.Part(s.l, s.at)}
		for i, d := range c {
			body := applied(t, s.l, s.at, d)
			if slices.ContainsFunc(bodies, func(l []api.Node) bool { return arena.Same(l, body) }) {
				t.Fatalf("%v at %d of %v was there", d, s.at, s.l)
			}
			bodies = append(bodies, body)
			if i > 0 && delta.Compare(c[i-1], d) >= 0 {
				t.Fatalf("%v behind %v", d, c[i-1])
			}
		}
	}
}

// A choice of the whole program's node can be applied there, too, and changes nothing but the part.
func TestInTheWhole(t *testing.T) {
	r := rand.New(rand.NewSource(5))
	told := 0
	for range 60 {
		x := grown(r, 1+r.Intn(60))
		l := x.list()
		at := 0
		var each func(y tree, path []int)
		each = func(y tree, path []int) {
			here := at
			for _, d := range catalog.Choices(l, here) {
				want := arena.Replace(l, here, applied(t, l, here, d))
				p, e := delta.Apply(api.Program{Body: l}, api.Delta{Path: path, Op: d.Op, N: d.N})
				if e != api.OK || !arena.Same(p.Body, want) || arena.Same(p.Body, l) {
					t.Fatalf("%v at %v of %v: %v %v", d, path, l, p, e)
				}
				told++
			}
			at++
			for n, k := range y.kids {
				each(k, slices.Concat(path, []int{n}))
			}
		}
		each(x, nil)
	}
	if told < 1000 {
		t.Errorf("%d only", told)
	}
}

// What changes a node's tag is a choice the other way round, too; so it is with a truth, and with a number and the one beside it.
func TestOtherWayRound(t *testing.T) {
	r := rand.New(rand.NewSource(6))
	back := map[int]int{}
	for range 200 {
		l := grown(r, 1+r.Intn(60)).list()
		for at, x := range l {
			for _, d := range catalog.Choices(l, at) {
				was := x.Tag
				switch {
				case d.Op > api.OpConst, d.Op == api.OpConst && x.Tag == api.Int && d.N != x.N+1 && d.N != x.N-1:
					continue
				case d.Op == api.OpConst:
					was = x.N
				}
				changed := arena.Replace(l, at, applied(t, l, at, d))
				if !catalog.Is(changed, at, d.Op, was) || !slices.ContainsFunc(catalog.Choices(changed, at), func(c api.Delta) bool { return c.Op == d.Op && c.N == was }) {
					t.Fatalf("%v at %d of %v: not the other way round", d, at, l)
				}
				if again := applied(t, changed, at, api.Delta{Op: d.Op, N: was}); !arena.Same(again, arena.Part(l, at)) {
					t.Fatalf("%v at %d of %v, and back: %v", d, at, l, again)
				}
				back[d.Op]++
			}
		}
	}
	for op := api.OpArith; op <= api.OpConst; op++ {
		if back[op] < 100 {
			t.Errorf("operator %d: %d only", op, back[op])
		}
	}
}

// What delta.Apply lets at a node, but the catalogue does not: the node's own tag, the number that is there, other constants.
func TestNotAllThatIsLet(t *testing.T) {
	for _, x := range []struct {
		l []api.Node
		d api.Delta
	}{
		{[]api.Node{{Tag: 7}, {Tag: 3}, {Tag: 3}}, api.Delta{Op: 1, N: 7}},
		{[]api.Node{{Tag: 17}, {Tag: 3}, {Tag: 3}}, api.Delta{Op: 2, N: 17}},
		{[]api.Node{{Tag: 19}, {Tag: 3}, {Tag: 3}}, api.Delta{Op: 3, N: 19}},
		{[]api.Node{{Tag: 1, N: 5}}, api.Delta{Op: 4, N: 5}},
		{[]api.Node{{Tag: 1, N: 5}}, api.Delta{Op: 4, N: 7}},
		{[]api.Node{{Tag: 1, N: 5}}, api.Delta{Op: 4, N: -5}},
		{[]api.Node{{Tag: 2, N: 1}}, api.Delta{Op: 4, N: 1}},
		{[]api.Node{{Tag: 25}, {Tag: 1, N: 1}}, api.Delta{Op: 7, N: 1}},
		{[]api.Node{{Tag: 25}, {Tag: 3}}, api.Delta{Op: 7, N: -1}},
		{[]api.Node{{Tag: 25}, {Tag: 3}}, api.Delta{Op: 7, N: 2}},
	} {
		applied(t, x.l, 0, x.d)
		if catalog.Is(x.l, 0, x.d.Op, x.d.N) {
			t.Errorf("%v at %v", x.d, x.l)
		}
		hold(t, x.l, 0)
	}
}
