package machine_test

import (
	"slices"
	"testing"

	"offshoot/api"
)

// Each Set and each Put is an event, in the order in which they are done: what it stores there, even if that was there before, and even in a variable that is never asked.
func TestEvents(t *testing.T) {
	does(t, told{0, 14, 39, []stored{
		{3, 0, -1, 9}, {5, 1, -1, 9}, {8, 4, 0, 9}, {11, 4, 0, 9}, {14, 3, 0, 9}, {17, 2, -1, 0}, {21, 6, -1, 1}, {26, 4, 7, -9}, {30, 5, -1, 5}, {34, 5, -1, 14},
	}},
		set(0, num(9)), set(1, get(0)), put(4, num(0), get(1)), put(4, num(0), num(9)), put(3, num(0), get(0)),
		set(2, of(6, 0, truth(1))), set(6, of(14, 0, num(1), num(2))), put(4, num(7), of(8, 0, num(0), get(0))),
		set(5, of(7, 0, num(2), num(3))), set(5, of(7, 0, get(5), num(9))), choice(get(2), block(set(0, num(1))), block(back(get(5)))), set(0, num(2)))
	same := slices.Repeat([]tree{set(5, num(0)), put(4, num(3), num(0))}, 3)
	does(t, told{3, 0, 16, []stored{{3, 5, -1, 0}, {6, 4, 3, 0}, {8, 5, -1, 0}, {11, 4, 3, 0}, {13, 5, -1, 0}, {16, 4, 3, 0}}}, same...)
}

// A store that is not reached, or whose kids trap, or that has no such place, is no event, and stores nothing.
func TestNoEvent(t *testing.T) {
	div := of(10, 0, num(1), num(0))
	one := stored{3, 5, -1, 1}
	for _, x := range []struct {
		kind, steps int
		l           []tree
	}{
		{1, 7, []tree{set(5, div), set(5, num(2))}},
		{2, 6, []tree{set(5, at(3, num(1))), set(5, num(2))}},
		{1, 8, []tree{put(4, num(1), div), set(5, num(2))}},
		{1, 7, []tree{put(4, div, num(1)), set(5, num(2))}},
		{2, 6, []tree{put(4, num(8), num(2)), set(5, num(2))}},
		{2, 6, []tree{put(3, num(1), num(2)), set(5, num(2))}},
		{0, 5, []tree{back(num(0)), set(5, num(2))}},
		{3, 9, []tree{while(truth(0), set(5, num(2))), choice(truth(1), block(skip()), block(set(5, num(2))))}},
		{4, 10000, []tree{while(truth(1)), set(5, num(2))}},
	} {
		does(t, told{x.kind, 0, x.steps, []stored{one}}, append([]tree{set(5, num(1))}, x.l...)...)
	}
}

// The variables of a program are each its own: no two arrays share their numbers, nor does a run with another one.
func TestOwnArrays(t *testing.T) {
	vars := []int{9, 9, 2, 0, 9, 5, 1, 9, 3, 9, 9, 9}
	p := api.Program{Vars: vars}
	for v, typ := range vars {
		if typ < 2 {
			continue
		}
		var l []tree
		for i := range typ - 1 {
			l = append(l, put(v, num(i), num(100+10*v+i)))
		}
		for other, size := range vars {
			for i := range max(size-1, 0) {
				want := told{0, 0, 1 + 3*len(l) + 3, nil}
				if other == v {
					want.value = 100 + 10*v + i
				}
				for j := range l {
					want.stored = append(want.stored, stored{1 + 3*(j+1), v, j, 100 + 10*v + j})
				}
				p.Body = block(append(slices.Clone(l), back(at(other, num(i))))...).list()
				ran(t, p, nil, 10000, want.with(10000), api.OK)
			}
		}
		p.Body = block(choice(of(12, 0, at(v, num(0)), num(0)), block(put(v, num(0), num(3)), back(num(7))), block(back(num(8))))).list()
		for range 3 {
			ran(t, p, nil, 10000, api.Run{Out: api.Outcome{Value: 7}, Steps: 12, Events: []api.Event{{Var: v, Value: 3}}}, api.OK)
		}
	}
}
