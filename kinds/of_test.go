package kinds_test

import (
	"math"
	"math/rand"
	"slices"
	"testing"

	"offshoot/api"
	"offshoot/kinds"
)

func TestOfByHand(t *testing.T) {
	one, yes, skip, none := api.Node{Tag: 1, N: 1}, api.Node{Tag: 2, N: 1}, api.Node{Tag: 26}, api.Node{Tag: 20}
	vars := []int{0, 1, 2}
	for i, x := range []struct {
		l    []api.Node
		want int
	}{
		{[]api.Node{one}, 0},
		{[]api.Node{{Tag: 1, N: math.MinInt}}, 0},
		{[]api.Node{{Tag: 2}}, 1},
		{[]api.Node{{Tag: 3, N: 0}}, 0},
		{[]api.Node{{Tag: 3, N: 1}}, 1},
		{[]api.Node{{Tag: 3, N: 2}}, -1},
		{[]api.Node{{Tag: 3, N: 3}}, -1},
		{[]api.Node{{Tag: 4, N: 2}, one}, 0},
		{[]api.Node{{Tag: 4, N: 2}, yes}, -1},
		{[]api.Node{{Tag: 4, N: 0}, one}, -1},
		{[]api.Node{{Tag: 4, N: 3}, one}, -1},
		{[]api.Node{{Tag: 5}, one}, 0},
		{[]api.Node{{Tag: 5}, yes}, -1},
		{[]api.Node{{Tag: 6}, yes}, 1},
		{[]api.Node{{Tag: 6}, one}, -1},
		{[]api.Node{{Tag: 11}, one, one}, 0},
		{[]api.Node{{Tag: 12}, one, one}, 1},
		{[]api.Node{{Tag: 12}, yes, yes}, -1},
		{[]api.Node{{Tag: 17}, one, one}, 1},
		{[]api.Node{{Tag: 18}, yes, yes}, 1},
		{[]api.Node{{Tag: 19}, yes, one}, -1},
		{[]api.Node{none}, 2},
		{[]api.Node{{Tag: 20, N: 2}, skip, none}, 2},
		{[]api.Node{{Tag: 20, N: 2}, skip, one}, -1},
		{[]api.Node{{Tag: 21, N: 0}, one}, 2},
		{[]api.Node{{Tag: 21, N: 1}, yes}, 2},
		{[]api.Node{{Tag: 21, N: 1}, one}, -1},
		{[]api.Node{{Tag: 21, N: 2}, one}, -1},
		{[]api.Node{{Tag: 22, N: 2}, one, one}, 2},
		{[]api.Node{{Tag: 22, N: 0}, one, one}, -1},
		{[]api.Node{{Tag: 23}, yes, none, none}, 2},
		{[]api.Node{{Tag: 23}, yes, none, skip}, -1},
		{[]api.Node{{Tag: 23}, yes, skip, none}, -1},
		{[]api.Node{{Tag: 23}, one, none, none}, -1},
		{[]api.Node{{Tag: 23}, yes, none, {Tag: 20, N: 1}, one}, -1},
		{[]api.Node{{Tag: 24}, yes, none}, 2},
		{[]api.Node{{Tag: 24}, yes, skip}, -1},
		{[]api.Node{{Tag: 24}, one, none}, -1},
		{[]api.Node{{Tag: 24}, none, none}, -1},
		{[]api.Node{{Tag: 25}, one}, 2},
		{[]api.Node{{Tag: 25}, yes}, -1},
		{[]api.Node{skip}, 2},
	} {
		p := api.Program{Vars: vars, Body: x.l}
		if k := kinds.Of(p, 0); k != x.want {
			t.Errorf("%d: Of(%v, 0): %d, not %d", i, x.l, k, x.want)
		}
		hold(t, p)
	}
}

// samples are parts of each kind, and of none, of each tag that may be so.
func samples() [][]api.Node {
	one, yes, skip := api.Node{Tag: 1, N: 7}, api.Node{Tag: 2}, api.Node{Tag: 26}
	return [][]api.Node{
		{one}, {{Tag: 3, N: 0}}, {{Tag: 7}, one, one}, // 0
		{yes}, {{Tag: 3, N: 1}}, {{Tag: 14}, one, one}, // 1
		{skip}, {{Tag: 21, N: 0}, one}, {{Tag: 24}, yes, {Tag: 20}}, // 2
		{{Tag: 20}}, {{Tag: 20, N: 2}, skip, {Tag: 20}}, // 2, with the tag Block
		{{Tag: 3, N: 2}}, {{Tag: 3, N: 11}}, {{Tag: 5}, yes}, {{Tag: 20, N: 1}, one}, {{Tag: 20, N: 2}, skip, yes}, {{Tag: 23}, yes, skip, skip}, // -1
	}
}

// Each tag with kids of each kind, each with variables of each type, of those just outside, and with one that there is not.
func TestOfEachTag(t *testing.T) {
	vars := allVars()
	told := map[int]map[int]int{}
	for tag := 1; tag <= 26; tag++ {
		told[tag] = map[int]int{}
		for n := range 12 {
			x := api.Node{Tag: tag, N: n}
			if arity(x) >= 0 && arity(x) < 4 {
				for _, l := range rowsOf(arity(x)) {
					p := api.Program{Vars: vars, Body: append([]api.Node{x}, l...)}
					k, want := kinds.Of(p, 0), wordsOf(p, 0)
					if k != want {
						t.Fatalf("Of(%v, 0): %d, not %d", p, k, want)
					}
					told[tag][k]++
				}
			}
		}
	}
	for _, a := range table() {
		if told[a.tag][a.kind] == 0 {
			t.Errorf("tag %d was never of kind %d", a.tag, a.kind)
		}
	}
}

// rowsOf are all rows of so many samples, each one list.
func rowsOf(n int) [][]api.Node {
	if n == 0 {
		return [][]api.Node{nil}
	}
	var l [][]api.Node
	for _, ahead := range rowsOf(n - 1) {
		for _, x := range samples() {
			l = append(l, slices.Concat(ahead, x))
		}
	}
	return l
}

// A variable's type at each number: the last one, the one behind it, and all types, with few variables, and with more than may be.
func TestOfVariables(t *testing.T) {
	one, yes := api.Node{Tag: 1}, api.Node{Tag: 2}
	for _, typ := range []int{0, 1, 2, 3, 4, 5, 6, 7, 8, 9, 10, 11, -1, -2, 1 << 32, 1<<32 + 2, 256, math.MinInt, math.MaxInt} {
		for n := range 16 {
			for at := range n {
				vars := make([]int, n)
				vars[at] = typ
				for i := range 12 {
					for _, l := range [][]api.Node{{{Tag: 3, N: i}}, {{Tag: 4, N: i}, one}, {{Tag: 4, N: i}, yes}, {{Tag: 21, N: i}, one}, {{Tag: 21, N: i}, yes}, {{Tag: 22, N: i}, one, one}, {{Tag: 22, N: i}, one, yes}, {{Tag: 22, N: i}, yes, one}} {
						p := api.Program{Vars: vars, Body: l}
						if k, want := kinds.Of(p, 0), wordsOf(p, 0); k != want {
							t.Fatalf("Of(%v, 0): %d, not %d", p, k, want)
						}
					}
				}
			}
		}
	}
}

// What Vars would refuse counts for nothing but what is named: how many parameters there are is not asked.
func TestOfParams(t *testing.T) {
	for _, params := range []int{0, 1, 2, 3, -1, math.MinInt, math.MaxInt} {
		hold(t, api.Program{Params: params, Vars: []int{1, 0}, Body: []api.Node{{Tag: 21, N: 1}, {Tag: 1}}})
		hold(t, api.Program{Params: params, Vars: []int{1, -5, 10, 0}, Body: []api.Node{{Tag: 21, N: 3}, {Tag: 1}}})
	}
	hold(t, api.Program{})
	hold(t, api.Program{Vars: []int{0}})
	hold(t, api.Program{Body: []api.Node{{Tag: 3}}})
	hold(t, api.Program{Body: []api.Node{{Tag: 20, N: 1}, {Tag: 25}, {Tag: 3}}})
}

// A variable is not looked for behind Vars, though memory is there.
func TestOfBehindVars(t *testing.T) {
	all := make([]int, 12)
	for n := range 12 {
		hold(t, api.Program{Vars: all[:n], Body: []api.Node{{Tag: 3, N: n}}})
		hold(t, api.Program{Vars: all[:n], Body: []api.Node{{Tag: 3, N: max(n-1, 0)}}})
	}
}

// Typed programs; cut at each place, with more behind, and with a node that may not be, or another one, at each place.
func TestOf(t *testing.T) {
	r := rand.New(rand.NewSource(3))
	wrong := bad()
	for range 300 {
		p := typed(r, 1+r.Intn(40))
		hold(t, p)
		q := twin(p)
		q.Body = append(q.Body, typed(r, 10).Body...)
		hold(t, q)
		for at := range p.Body {
			q = twin(p)
			q.Body = q.Body[:at]
			held(t, q, at)
			q = twin(p)
			q.Body[at] = wrong[r.Intn(len(wrong))]
			held(t, q, at)
			q = twin(p)
			q.Body[at] = api.Node{Tag: 1 + r.Intn(26), N: r.Intn(3)}
			held(t, q, at)
			q = twin(p)
			q.Body[at].N = r.Intn(12)
			held(t, q, at)
		}
		for at := range p.Vars {
			q = twin(p)
			q.Vars[at] = r.Intn(14) - 2
			hold(t, q)
			q.Vars = q.Vars[:at]
			hold(t, q)
		}
	}
}

// held holds Of at the first place, and about another one.
func held(t *testing.T, p api.Program, about int) {
	t.Helper()
	for _, at := range []int{0, 1, about - 2, about - 1, about, about + 1, len(p.Body) - 1, len(p.Body)} {
		if k, want := kinds.Of(p, at), wordsOf(p, at); k != want {
			t.Fatalf("Of(%v, %d): %d, not %d", p, at, k, want)
		}
	}
}

// Nodes of all kinds, one behind the other, by the chapter's words.
func TestOfShort(t *testing.T) {
	var nodes []api.Node
	for tag := range 28 {
		nodes = append(nodes, api.Node{Tag: tag})
	}
	nodes = append(nodes, api.Node{Tag: 3, N: 1}, api.Node{Tag: 3, N: 2}, api.Node{Tag: 4, N: 2}, api.Node{Tag: 20, N: 1}, api.Node{Tag: 20, N: 2}, api.Node{Tag: 21, N: 1}, api.Node{Tag: 22, N: 2})
	for _, a := range nodes {
		for _, b := range nodes {
			for _, c := range nodes {
				p := api.Program{Vars: []int{0, 1, 9}, Body: []api.Node{a, b, c}}
				for at := range p.Body {
					if k, want := kinds.Of(p, at), wordsOf(p, at); k != want {
						t.Fatalf("Of(%v, %d): %d, not %d", p, at, k, want)
					}
				}
			}
		}
	}
}

// No limit of a body is asked by Of: more than 200 nodes, and deeper than 30, have a kind, too.
func TestOfBeyond(t *testing.T) {
	is := func(l []api.Node, at, want int) {
		t.Helper()
		if k := kinds.Of(api.Program{Vars: []int{0, 1, 9}, Body: l}, at); k != want {
			t.Fatalf("%v of %d nodes, at %d: %d, not %d", l[0], len(l), at, k, want)
		}
	}
	one, yes, n := api.Node{Tag: 1}, api.Node{Tag: 2}, 1<<16
	is(chain(api.Node{Tag: 5}, n, one), 0, 0)
	is(chain(api.Node{Tag: 5}, n, one), n, 0)
	is(chain(api.Node{Tag: 5}, n, yes), 0, -1)
	is(chain(api.Node{Tag: 5}, n, yes), n, 1)
	is(chain(api.Node{Tag: 6}, n, yes), 0, 1)
	is(chain(api.Node{Tag: 20, N: 1}, n, api.Node{Tag: 26}), 0, 2)
	is(chain(api.Node{Tag: 20, N: 1}, n, one), 0, -1)
	is(chain(api.Node{Tag: 7}, n, chain(one, n+1)...), 0, 0)
	is(chain(api.Node{Tag: 7}, n, append(chain(one, n), yes)...), 0, -1)
	is(chain(api.Node{Tag: 7}, n, append(chain(one, n), yes)...), 1, 0)
	is(chain(api.Node{Tag: 7}, n, chain(one, n)...), 0, -1)
	is(slices.Repeat([]api.Node{{Tag: 8}, one}, n), 0, -1)
	is(append(slices.Repeat([]api.Node{{Tag: 8}, one}, n), one), 0, 0)
	is(append(slices.Repeat([]api.Node{{Tag: 24}, yes, {Tag: 20, N: 1}}, n), api.Node{Tag: 26}), 0, 2)
	is(append(chain(api.Node{Tag: 20, N: 200}, 1), chain(api.Node{Tag: 26}, 200)...), 0, 2)
	is(append(chain(api.Node{Tag: 20, N: 200}, 1), chain(api.Node{Tag: 26}, 199, one)...), 0, -1)
	is(append(chain(api.Node{Tag: 20, N: 200}, 1), append([]api.Node{one}, chain(api.Node{Tag: 26}, 199)...)...), 0, -1)
	is(chain(api.Node{Tag: 26}, 1<<20), 1<<20-1, 2)
}
