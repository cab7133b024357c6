package arena_test

import (
	"math/rand"
	"slices"
	"testing"

	"offshoot/api"
	"offshoot/arena"
)

// checked holds Check against what it must tell, twice; the list stays as it was.
func checked(t *testing.T, l []api.Node, want api.Errno) {
	t.Helper()
	was := slices.Clone(l)
	for range 2 {
		if e := arena.Check(l); e != want {
			t.Fatalf("Check of %d nodes (%v): %v, not %v", len(l), l[:min(len(l), 40)], e, want)
		}
	}
	if !slices.Equal(l, was) {
		t.Fatalf("%v was changed: %v", was, l)
	}
}

// wordsCheck is Check by the chapter's words.
func wordsCheck(l []api.Node) api.Errno {
	x, ok := parse(l, 0)
	switch {
	case len(l) < 1:
		return api.ErrEmpty
	case len(l) > 200:
		return api.ErrLarge
	case slices.ContainsFunc(l, func(x api.Node) bool { return arity(x) < 0 }):
		return api.ErrTag
	case !ok || x.size() != len(l):
		return api.ErrForm
	case x.depth() > 30:
		return api.ErrDeep
	}
	return api.OK
}

// No node, 1, 200 and 201 of them.
func TestCheckHowMany(t *testing.T) {
	checked(t, nil, api.ErrEmpty)
	checked(t, []api.Node{}, api.ErrEmpty)
	checked(t, []api.Node{{Tag: 26}}, api.OK)
	checked(t, []api.Node{{Tag: 1, N: -1 << 63}}, api.OK)
	checked(t, block(0), api.OK)
	checked(t, block(198), api.OK)
	checked(t, block(199), api.OK) // 200 nodes
	checked(t, block(200), api.ErrLarge)
	checked(t, block(201), api.ErrLarge) // and 201 is no number for a Block
	checked(t, chain(api.Node{}, 201), api.ErrLarge)
	checked(t, chain(api.Node{Tag: 26}, 201), api.ErrLarge)
	checked(t, chain(api.Node{Tag: 5}, 200, api.Node{Tag: 1}), api.ErrLarge) // too deep, too
	checked(t, chain(api.Node{Tag: 26}, 1<<20), api.ErrLarge)
}

// A node that may not be is told at each place, the first, the last, and behind the first one's end, ahead of what else is wrong.
func TestCheckTag(t *testing.T) {
	good := block(199)
	wrong := bad()
	for at := range good {
		for _, x := range wrong {
			l := slices.Clone(good)
			l[at] = x
			checked(t, l, api.ErrTag)
		}
	}
	for _, x := range wrong {
		checked(t, []api.Node{x}, api.ErrTag)
		checked(t, []api.Node{{Tag: 26}, x}, api.ErrTag)
		checked(t, []api.Node{{Tag: 26}, {Tag: 26}, x}, api.ErrTag)
		checked(t, []api.Node{{Tag: 7}, {Tag: 1}, x}, api.ErrTag)
		checked(t, []api.Node{{Tag: 23}, x}, api.ErrTag)
		checked(t, chain(api.Node{Tag: 5}, 31, x), api.ErrTag)
		checked(t, chain(api.Node{Tag: 5}, 31, api.Node{Tag: 1}, x), api.ErrTag)
		checked(t, chain(x, 200), api.ErrTag)
		checked(t, chain(x, 201), api.ErrLarge)
	}
}

// Too few nodes, or too many, for the first one: told ahead of too deep.
func TestCheckForm(t *testing.T) {
	r := rand.New(rand.NewSource(8))
	for range 200 {
		l := grown(r, 60).list()
		checked(t, l, wordsCheck(l))
		for n := 1; n < len(l); n++ {
			checked(t, l[:n], api.ErrForm)
		}
		checked(t, append(slices.Clone(l), api.Node{Tag: 26}), api.ErrForm)
		checked(t, append(slices.Clone(l), l...), api.ErrForm)
	}
	checked(t, block(200)[:200], api.ErrForm)
	checked(t, append(block(198), api.Node{Tag: 26}), api.ErrForm)
	checked(t, chain(api.Node{Tag: 26}, 200), api.ErrForm)
	checked(t, chain(api.Node{Tag: 5}, 200), api.ErrForm)
	checked(t, chain(api.Node{Tag: 5}, 30), api.ErrForm)
	checked(t, chain(api.Node{Tag: 5}, 31), api.ErrForm)
	checked(t, chain(api.Node{Tag: 5}, 31, api.Node{Tag: 1}, api.Node{Tag: 1}), api.ErrForm)
	checked(t, append(block(0), chain(api.Node{Tag: 5}, 40, api.Node{Tag: 1})...), api.ErrForm)
}

// A depth of 30 is let, and one of 31 is not, by whatever kid one goes down.
func TestCheckDeep(t *testing.T) {
	one := api.Node{Tag: 1}
	for n, want := range map[int]api.Errno{1: api.OK, 28: api.OK, 29: api.OK, 30: api.ErrDeep, 31: api.ErrDeep, 66: api.ErrDeep} {
		checked(t, chain(api.Node{Tag: 5}, n, one), want)
		checked(t, chain(api.Node{Tag: 20, N: 1}, n, one), want)
		checked(t, chain(api.Node{Tag: 20, N: 1}, n, api.Node{Tag: 20}), want)
		checked(t, chain(api.Node{Tag: 7}, n, chain(one, n+1)...), want)
		checked(t, chain(api.Node{Tag: 20, N: 2}, n, chain(one, n+1)...), want)
		var last, middle []api.Node
		for range n {
			last = append(last, api.Node{Tag: 24}, one)
			middle = append(middle, api.Node{Tag: 23}, one)
		}
		checked(t, append(last, one), want)
		checked(t, append(middle, chain(one, n+1)...), want)
	}
	deep := chain(api.Node{Tag: 5}, 29, one)
	for at := range 3 { // as any kid of one node more
		l := []api.Node{{Tag: 23}}
		for i := range 3 {
			if i == at {
				l = append(l, deep...)
			} else {
				l = append(l, one)
			}
		}
		checked(t, l, api.ErrDeep)
		checked(t, arena.Replace(l, at+1, deep[1:]), api.OK)
	}
	checked(t, chain(api.Node{Tag: 5}, 199, one), api.ErrDeep) // 200 nodes, all in one another
}

// Lists of all kinds, by the chapter's words.
func TestCheck(t *testing.T) {
	r := rand.New(rand.NewSource(9))
	told, wrong := map[api.Errno]int{}, bad()
	for range 4000 {
		var l []api.Node
		for range r.Intn(8) {
			l = append(l, grown(r, 1+r.Intn(90)).list()...)
		}
		switch r.Intn(4) {
		case 0:
			l = grown(r, 1+r.Intn(250)).list()
		case 1:
			l = append(chain(api.Node{Tag: 6}, r.Intn(60)), l...)
		case 2:
			l = append(l, wrong[r.Intn(len(wrong))])
		}
		want := wordsCheck(l)
		told[want]++
		checked(t, l, want)
	}
	for _, e := range []api.Errno{api.OK, api.ErrEmpty, api.ErrLarge, api.ErrTag, api.ErrForm, api.ErrDeep} {
		if told[e] < 50 {
			t.Errorf("%v was told %d times only", e, told[e])
		}
	}
}
