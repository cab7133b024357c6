package kinds_test

import (
	"math"
	"math/rand"
	"slices"
	"testing"

	"offshoot/api"
	"offshoot/kinds"
)

// wordsVars is Vars by the chapter's words.
func wordsVars(p api.Program) api.Errno {
	wrong := p.Params < 0 || p.Params > len(p.Vars) || len(p.Vars) > 12
	for i, t := range p.Vars {
		wrong = wrong || t < 0 || t > 9 || i < p.Params && t != 0
	}
	if wrong {
		return api.ErrVars
	}
	return api.OK
}

// listed holds Vars against what it must tell, twice; the program stays as it was, and its body is not asked.
func listed(t *testing.T, params int, vars []int, want api.Errno) {
	t.Helper()
	for _, body := range [][]api.Node{nil, {{Tag: 99}}, block()} {
		p := api.Program{Params: params, Vars: vars, Body: body}
		was := twin(p)
		for range 2 {
			if e := kinds.Vars(p); e != want {
				t.Fatalf("Vars of %d and %v: %v, not %v", params, vars, e, want)
			}
		}
		unchanged(t, p, was)
	}
}

// Types of 0, 1, 2 and 9, and those just outside, at each place.
func TestVarsTypes(t *testing.T) {
	for n := 1; n <= 12; n++ {
		for at := range n {
			for _, x := range []int{0, 1, 2, 3, 4, 5, 6, 7, 8, 9} {
				vars := make([]int, n)
				vars[at] = x
				listed(t, 0, vars, api.OK)
				listed(t, at, vars, api.OK)
				if x != 0 {
					listed(t, at+1, vars, api.ErrVars)
					listed(t, n, vars, api.ErrVars)
				}
			}
			for _, x := range []int{-1, 10, 11, -9, 1 << 32, 1<<32 + 1, 256, math.MinInt, math.MaxInt} {
				vars := make([]int, n)
				vars[at] = x
				for params := range n + 1 {
					listed(t, params, vars, api.ErrVars)
				}
			}
		}
	}
}

// None, 12 and 13 variables, and many; Params of 0, of how many there are, and one more, and below 0.
func TestVarsHowMany(t *testing.T) {
	for n := range 20 {
		want := api.OK
		if n > 12 {
			want = api.ErrVars
		}
		for params := range n + 1 {
			listed(t, params, make([]int, n), want)
		}
		listed(t, 0, slices.Repeat([]int{1}, n), want)
		listed(t, 0, slices.Repeat([]int{9}, n), want)
		for _, params := range []int{-1, -2, -n - 1, n + 1, n + 2, 1 << 31, 1 << 32, math.MinInt, math.MaxInt} {
			listed(t, params, make([]int, n), api.ErrVars)
		}
	}
	listed(t, 0, nil, api.OK)
	listed(t, 0, []int{}, api.OK)
	listed(t, 1, nil, api.ErrVars)
	listed(t, -1, nil, api.ErrVars)
	listed(t, 0, make([]int, 1<<20), api.ErrVars)
	listed(t, 1<<20, make([]int, 1<<20), api.ErrVars)
}

// What stands behind Vars in memory counts for nothing.
func TestVarsBehind(t *testing.T) {
	all := []int{0, 0, 0, 99, -1}
	listed(t, 3, all[:3], api.OK)
	listed(t, 4, all[:3], api.ErrVars)
	all[3] = 0
	listed(t, 4, all[:3], api.ErrVars)
}

// Variables of all kinds, by the chapter's words.
func TestVars(t *testing.T) {
	r := rand.New(rand.NewSource(1))
	told := map[api.Errno]int{}
	for range 5000 {
		vars := make([]int, r.Intn(15))
		for i := range vars {
			if r.Intn(2) == 0 {
				vars[i] = r.Intn(10)
			}
			if r.Intn(30) == 0 {
				vars[i] = r.Intn(14) - 2
			}
		}
		p := api.Program{Params: r.Intn(len(vars)+4) - 1, Vars: vars}
		told[wordsVars(p)]++
		listed(t, p.Params, vars, wordsVars(p))
	}
	if told[api.OK] < 500 || told[api.ErrVars] < 500 {
		t.Error(told)
	}
}

// Arrays have from 1 to 8 numbers; what is none has 0.
func TestSize(t *testing.T) {
	for typ, want := range map[int]int{
		0: 0, 1: 0, 2: 1, 3: 2, 4: 3, 5: 4, 6: 5, 7: 6, 8: 7, 9: 8, 10: 0, 11: 0, -1: 0, -2: 0, -9: 0,
		1 << 32: 0, 1<<32 + 2: 0, 1<<32 + 9: 0, 256 + 2: 0, math.MinInt: 0, math.MinInt + 1: 0, math.MinInt + 9: 0, math.MaxInt: 0,
	} {
		for range 2 {
			if n := kinds.Size(typ); n != want {
				t.Errorf("Size(%d): %d, not %d", typ, n, want)
			}
		}
	}
}

// same holds Same of two programs, either way round.
func same(t *testing.T, a, b api.Program, want bool) {
	t.Helper()
	c, d := twin(a), twin(b)
	if kinds.Same(a, b) != want || kinds.Same(b, a) != want {
		t.Fatalf("%v and %v: not %v", a, b, want)
	}
	unchanged(t, a, c)
	unchanged(t, b, d)
}

// Programs are alike in Params, Vars and bodies; they need not be typed, and without a thing is alike, nil or empty.
func TestSame(t *testing.T) {
	r := rand.New(rand.NewSource(2))
	same(t, api.Program{}, api.Program{Vars: []int{}, Body: []api.Node{}}, true)
	same(t, api.Program{}, api.Program{Params: 1}, false)
	same(t, api.Program{}, api.Program{Vars: []int{0}}, false)
	same(t, api.Program{}, api.Program{Body: []api.Node{{}}}, false)
	same(t, api.Program{Params: -3, Vars: []int{77}, Body: []api.Node{{Tag: -4, N: 9}}}, api.Program{Params: -3, Vars: []int{77}, Body: []api.Node{{Tag: -4, N: 9}}}, true)
	same(t, api.Program{Vars: []int{1, 2}}, api.Program{Vars: []int{2, 1}}, false)
	for range 200 {
		p := typed(r, 1+r.Intn(60))
		same(t, p, p, true)
		q := twin(p)
		same(t, p, q, true)
		q.Params++
		same(t, p, q, false)
		q.Params--
		for i := range q.Vars {
			q.Vars[i]++
			same(t, p, q, false)
			q.Vars[i]--
		}
		for i := range q.Body {
			q.Body[i].N++
			same(t, p, q, false)
			q.Body[i].N--
			q.Body[i].Tag--
			same(t, p, q, false)
			q.Body[i].Tag++
		}
		same(t, p, q, true)
		q.Vars = q.Vars[:len(q.Vars)-1]
		same(t, p, q, false)
		q = twin(p)
		q.Vars = append(q.Vars, 0)
		same(t, p, q, false)
		q = twin(p)
		q.Body = q.Body[:len(q.Body)-1]
		same(t, p, q, false)
		q = twin(p)
		q.Body = append(q.Body, api.Node{})
		same(t, p, q, false)
	}
}
