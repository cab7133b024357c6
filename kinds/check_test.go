package kinds_test

import (
	"math"
	"math/rand"
	"slices"
	"testing"

	"offshoot/api"
	"offshoot/arena"
)

// wordsCheck is Check by the chapter's words.
func wordsCheck(p api.Program) api.Errno {
	if e := arena.Check(p.Body); e != api.OK {
		return e
	}
	if e := wordsVars(p); e != api.OK {
		return e
	}
	if p.Body[0].Tag != 20 || wordsOf(p, 0) != 2 {
		return api.ErrKind
	}
	return api.OK
}

// The chapter's examples, and other short ones.
func TestCheckByHand(t *testing.T) {
	one, yes, skip, ret := api.Node{Tag: 1, N: 1}, api.Node{Tag: 2}, api.Node{Tag: 26}, api.Node{Tag: 25}
	checked(t, api.Program{Params: 1, Vars: []int{0}, Body: []api.Node{{Tag: 20, N: 1}, ret, {Tag: 7}, {Tag: 3}, one}}, api.OK)
	checked(t, api.Program{Params: 1, Vars: []int{0}, Body: []api.Node{{Tag: 20, N: 1}, ret, yes}}, api.ErrKind)
	checked(t, api.Program{}, api.ErrEmpty)
	checked(t, api.Program{Body: block()}, api.OK)
	checked(t, api.Program{Body: block(block(), []api.Node{skip})}, api.OK)
	for _, l := range [][]api.Node{{skip}, {one}, {yes}, {ret, one}, {{Tag: 7}, one, one}, {{Tag: 23}, yes, {Tag: 20}, {Tag: 20}}, {{Tag: 24}, yes, {Tag: 20}}} { // a first node that is no Block, whatever its kind
		checked(t, api.Program{Body: l}, api.ErrKind)
		checked(t, api.Program{Params: 1, Vars: []int{0, 9}, Body: l}, api.ErrKind)
	}
	for _, l := range [][]api.Node{{one}, {yes}, {{Tag: 3}}, {{Tag: 3, N: 1}}, {{Tag: 23}, yes, {Tag: 20}, skip}, {{Tag: 23}, yes, skip, {Tag: 20}}, {{Tag: 24}, yes, skip}, {{Tag: 24}, yes, ret, one}, {{Tag: 3, N: 11}}, {{Tag: 21, N: 2}, one}} { // a Block whose kid is no statement
		checked(t, api.Program{Params: 1, Vars: []int{0, 1}, Body: block(l)}, api.ErrKind)
		checked(t, api.Program{Params: 1, Vars: []int{0, 1}, Body: block([]api.Node{skip}, l)}, api.ErrKind)
		checked(t, api.Program{Params: 1, Vars: []int{0, 1}, Body: block(l, []api.Node{skip})}, api.ErrKind)
		checked(t, api.Program{Params: 1, Vars: []int{0, 1}, Body: block(block(l))}, api.ErrKind)
	}
}

// arena.Check's errors of the body are told ahead of ErrVars, and ErrVars ahead of ErrKind.
func TestCheckOrder(t *testing.T) {
	one, skip := api.Node{Tag: 1}, api.Node{Tag: 26}
	vars := []api.Program{{Params: -1}, {Params: 1}, {Vars: []int{10}}, {Vars: []int{-1}}, {Vars: make([]int, 13)}, {Params: 1, Vars: []int{1}}, {Params: math.MinInt}, {Params: math.MaxInt}}
	for _, x := range []struct {
		l []api.Node
		e api.Errno
	}{
		{nil, api.ErrEmpty},
		{chain(skip, 201), api.ErrLarge},
		{append(chain(api.Node{Tag: 20, N: 200}, 1), chain(skip, 200)...), api.ErrLarge},
		{[]api.Node{{}}, api.ErrTag},
		{block([]api.Node{{Tag: 3, N: 12}}), api.ErrTag},
		{block([]api.Node{one}, []api.Node{{Tag: 27}}), api.ErrTag},
		{[]api.Node{{Tag: 20, N: 2}, skip}, api.ErrForm},
		{[]api.Node{{Tag: 20}, one}, api.ErrForm},
		{[]api.Node{one, one}, api.ErrForm},
		{chain(api.Node{Tag: 20, N: 1}, 30, skip), api.ErrDeep},
		{chain(api.Node{Tag: 5}, 30, one), api.ErrDeep},
	} {
		checked(t, api.Program{Body: x.l}, x.e)
		checked(t, api.Program{Vars: goodVars(), Params: 2, Body: x.l}, x.e)
		for _, p := range vars {
			p.Body = x.l
			checked(t, p, x.e)
		}
	}
	for _, l := range [][]api.Node{block(), {skip}, {one}, block([]api.Node{one}), block([]api.Node{{Tag: 24}, {Tag: 2}, skip})} {
		for _, p := range vars {
			p.Body = l
			checked(t, p, api.ErrVars)
		}
	}
}

// Variables of all types, and of those just outside; 12 and 13 of them; Params of all numbers.
func TestCheckVars(t *testing.T) {
	body := block([]api.Node{{Tag: 26}})
	for n := range 15 {
		for params := -1; params <= n+1; params++ {
			for typ := -1; typ <= 10; typ++ {
				for _, at := range []int{0, n / 2, n - 1} {
					p := api.Program{Params: params, Vars: make([]int, n), Body: body}
					if at >= 0 && at < n {
						p.Vars[at] = typ
					}
					checked(t, p, wordsVars(p))
				}
			}
		}
	}
}

// 200 nodes and a depth of 30 are let, if they are typed.
func TestCheckLimits(t *testing.T) {
	skip := api.Node{Tag: 26}
	large := append(chain(api.Node{Tag: 20, N: 199}, 1), chain(skip, 199)...)
	checked(t, api.Program{Vars: goodVars(), Params: 2, Body: large}, api.OK)
	for at := 1; at < len(large); at++ {
		l := slices.Clone(large)
		l[at] = api.Node{Tag: 1}
		checked(t, api.Program{Body: l}, api.ErrKind)
		l[at] = api.Node{Tag: 3, N: 1}
		checked(t, api.Program{Vars: []int{0, 0}, Body: l}, api.ErrKind)
		l[at] = api.Node{Tag: 20}
		checked(t, api.Program{Body: l}, api.OK)
	}
	checked(t, api.Program{Body: chain(api.Node{Tag: 20, N: 1}, 29, skip)}, api.OK)
	checked(t, api.Program{Body: chain(api.Node{Tag: 20, N: 1}, 29, api.Node{Tag: 2})}, api.ErrKind)
	checked(t, api.Program{Body: append([]api.Node{{Tag: 20, N: 1}, {Tag: 25}}, chain(api.Node{Tag: 5}, 27, api.Node{Tag: 1})...)}, api.OK)
	checked(t, api.Program{Body: append([]api.Node{{Tag: 20, N: 1}, {Tag: 25}}, chain(api.Node{Tag: 5}, 27, api.Node{Tag: 2})...)}, api.ErrKind)
}

// Programs of all kinds, by the chapter's words.
func TestCheck(t *testing.T) {
	r := rand.New(rand.NewSource(5))
	told, wrong := map[api.Errno]int{}, bad()
	for range 4000 {
		p := typed(r, 1+r.Intn(250))
		at := r.Intn(len(p.Body))
		switch r.Intn(12) {
		case 0, 1:
			p.Body[at].Tag = 1 + r.Intn(26)
		case 2:
			p.Body[at] = wrong[r.Intn(len(wrong))]
		case 3:
			p.Body = p.Body[:at]
		case 4:
			p.Body = p.Body[at:]
		case 5:
			p.Vars[r.Intn(len(p.Vars))] = r.Intn(12) - 1
		case 6:
			p.Params = r.Intn(5) - 1
		case 7:
			p.Body[at].N = r.Intn(13)
		case 8:
			p.Vars = p.Vars[:r.Intn(len(p.Vars))]
			p.Params = min(p.Params, len(p.Vars))
		case 9:
			p.Body = append(chain(api.Node{Tag: 20, N: 1}, r.Intn(33)), p.Body...)
		case 10:
			n := r.Intn(200)
			p.Body = append(append([]api.Node{{Tag: 20, N: n + 1}}, p.Body...), chain(api.Node{Tag: 26}, n)...)
		}
		want := wordsCheck(p)
		told[want]++
		checked(t, p, want)
	}
	for _, e := range []api.Errno{api.OK, api.ErrEmpty, api.ErrLarge, api.ErrTag, api.ErrForm, api.ErrDeep, api.ErrVars, api.ErrKind} {
		if told[e] < 10 {
			t.Errorf("%v was told %d times only: %v", e, told[e], told)
		}
	}
}
