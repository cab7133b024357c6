package kinds_test

import (
	"math/rand"
	"slices"
	"testing"

	"offshoot/api"
	"offshoot/arena"
	"offshoot/kinds"
)

// What a typed program has below a node is typed, too; a Block of it is a typed program by itself.
func TestBelow(t *testing.T) {
	r := rand.New(rand.NewSource(6))
	for range 300 {
		p := within(r, 200)
		for at, x := range p.Body {
			k := kinds.Of(p, at)
			if k < 0 || k > 2 {
				t.Fatalf("%v is typed, but at %d is %d", p, at, k)
			}
			part := api.Program{Params: p.Params, Vars: p.Vars, Body: arena.Part(p.Body, at)}
			if n := kinds.Of(part, 0); n != k {
				t.Fatalf("%v at %d is %d, but by itself %d", p, at, k, n)
			}
			if x.Tag == 20 {
				checked(t, part, api.OK)
			} else {
				checked(t, part, api.ErrKind)
			}
		}
	}
}

// within is a program by chance that is typed, and within the limits.
func within(r *rand.Rand, size int) api.Program {
	for {
		if p := typed(r, 1+r.Intn(size)); kinds.Check(p) == api.OK {
			return p
		}
	}
}

// Put in instead of a part of the same kind and tag, a part leaves a program typed; only its nodes and its depth are asked then.
func TestPutIn(t *testing.T) {
	r := rand.New(rand.NewSource(7))
	put := 0
	for range 300 {
		p := within(r, 60)
		q := twin(p)
		for at, x := range p.Body {
			with := grown(r, p.Vars, sign(kinds.Of(p, at)), 1+r.Intn(20)).list()
			others := append(arena.Kids(p.Body, 0), at, r.Intn(len(p.Body)))
			for _, from := range others {
				if p.Body[from].Tag == x.Tag && kinds.Of(p, from) == kinds.Of(p, at) {
					stays(t, p, at, arena.Part(p.Body, from))
					put++
				}
			}
			if with[0].Tag == x.Tag {
				stays(t, p, at, with)
				put++
			}
		}
		unchanged(t, p, q)
	}
	if put < 5000 {
		t.Errorf("%d parts were put in only", put)
	}
}

// sign is a kind as the table's rows name it.
func sign(kind int) string { return []string{"0", "1", "2"}[kind] }

// stays holds that a program stays typed with another part at a place.
func stays(t *testing.T, p api.Program, at int, with []api.Node) {
	t.Helper()
	q := api.Program{Params: p.Params, Vars: p.Vars, Body: arena.Replace(p.Body, at, with)}
	if kinds.Of(q, 0) != 2 || kinds.Of(q, at) != kinds.Of(p, at) {
		t.Fatalf("%v with %v at %d: no more typed", p, with, at)
	}
	checked(t, q, arena.Check(q.Body))
}

// A part of another kind leaves no program typed; nor does a statement that is no Block, where a Block must be.
func TestPutInOther(t *testing.T) {
	r := rand.New(rand.NewSource(8))
	for range 200 {
		p := within(r, 60)
		for at := 1; at < len(p.Body); at++ {
			k := kinds.Of(p, at)
			for other := range 3 {
				q := api.Program{Params: p.Params, Vars: p.Vars, Body: arena.Replace(p.Body, at, grown(r, p.Vars, sign(other), 4).list())}
				if other != k && kinds.Of(q, 0) != -1 {
					t.Fatalf("%v, with a kind %d instead of %d at %d: typed", q, other, k, at)
				}
			}
		}
		for at, x := range p.Body {
			if x.Tag != 23 && x.Tag != 24 {
				continue
			}
			for _, kid := range arena.Kids(p.Body, at)[1:] {
				q := api.Program{Params: p.Params, Vars: p.Vars, Body: arena.Replace(p.Body, kid, []api.Node{{Tag: 26}})}
				if kinds.Of(q, kid) != 2 || kinds.Of(q, at) != -1 || kinds.Of(q, 0) != -1 {
					t.Fatalf("%v: a Skip is no Block at %d", q, kid)
				}
				checked(t, q, api.ErrKind)
			}
		}
	}
}

// What stands behind a program's lists in memory is not written to.
func TestShared(t *testing.T) {
	r := rand.New(rand.NewSource(9))
	for range 100 {
		p := within(r, 60)
		body := append(slices.Clone(p.Body), chain(api.Node{Tag: -3}, 300)...)
		vars := append(slices.Clone(p.Vars), slices.Repeat([]int{-7}, 20)...)
		wasBody, wasVars := slices.Clone(body), slices.Clone(vars)
		q := api.Program{Params: p.Params, Vars: vars[:len(p.Vars)], Body: body[:len(p.Body)]}
		hold(t, q)
		checked(t, q, api.OK)
		same(t, p, q, true)
		if kinds.Vars(q) != api.OK || !slices.Equal(body, wasBody) || !slices.Equal(vars, wasVars) {
			t.Fatalf("%v %v, not %v %v", body, vars, wasBody, wasVars)
		}
	}
}
