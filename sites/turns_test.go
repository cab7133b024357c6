package sites_test

import (
	"math/rand"
	"slices"
	"sync"
	"testing"

	"offshoot/api"
	"offshoot/sites"
)

// Calls by turns, at two programs and one that may not be, tell what each tells alone.
func TestByTurns(t *testing.T) {
	r := rand.New(rand.NewSource(9))
	for range 60 {
		bodies := []tree{typed(r, 40), typed(r, 40)}
		lists := [][]api.Delta{bodies[0].mutants(nil), bodies[1].mutants(nil)}
		for range 12 {
			n := r.Intn(2)
			x, p, l := bodies[n], program(bodies[n]), lists[n]
			listed(t, p, l, api.OK)
			for _, m := range slices.Concat(lists[0], lists[1], []api.Delta{{}})[:min(len(l), 6)] {
				want, e := told(p, x, m)
				made(t, p, m, want, e)
				found(t, l, m, place(l, m))
			}
			p.Body[0].N++
			listed(t, p, nil, api.ErrForm)
			made(t, p, d(5, 0, 0), api.Program{}, api.ErrForm)
		}
	}
}

// What a program becomes when it is changed by its owner is what is told next: nothing is kept of it from call to call.
func TestNothingKept(t *testing.T) {
	p := program(block(of(25, 0, of(1, 1))))
	listed(t, p, []api.Delta{d(5, 0, 0), d(7, 0, 0), d(4, -1, 0, 0), d(4, 0, 0, 0), d(4, 2, 0, 0)}, api.OK)
	p.Body[2].N = 0
	listed(t, p, []api.Delta{d(5, 0, 0), d(7, 1, 0), d(4, -1, 0, 0), d(4, 1, 0, 0)}, api.OK)
	made(t, p, d(7, 0, 0), api.Program{}, api.ErrDelta)
	made(t, p, d(7, 1, 0), program(block(of(25, 0, of(1, 1)))), api.OK)
	p.Vars = nil
	listed(t, p, nil, api.ErrVars)
	l := []api.Delta{d(5, 0, 0), d(5, 0, 1)}
	found(t, l, d(5, 0, 1), 1)
	l[1].Path[0] = 2
	found(t, l, d(5, 0, 1), -1)
	found(t, l, d(5, 0, 2), 1)
}

// Calls at one time, with the same arguments, tell the same as one alone.
func TestAtOnce(t *testing.T) {
	x := typed(rand.New(rand.NewSource(10)), 200)
	p, want := program(x), x.mutants(nil)
	var all sync.WaitGroup
	for range 8 {
		all.Add(1)
		go func() {
			defer all.Done()
			l, e := sites.All(p)
			if e != api.OK || !slices.EqualFunc(l, want, same) {
				t.Errorf("%v %v", short(l), e)
			}
			for i, m := range want {
				q, e := sites.Mutant(p, m)
				if y, f := told(p, x, m); e != f || !alike(q, y) || sites.Find(want, m) != i {
					t.Errorf("%v: %v %v", m, short(q.Body), e)
				}
			}
		}()
	}
	all.Wait()
}
