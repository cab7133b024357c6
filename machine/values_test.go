package machine_test

import (
	"math"
	"slices"
	"testing"

	"offshoot/api"
)

const least, most = math.MinInt, math.MaxInt

// The chapter's example.
func TestExample(t *testing.T) {
	p := api.Program{Params: 1, Vars: []int{0}, Body: []api.Node{{Tag: 20, N: 1}, {Tag: 25}, {Tag: 7}, {Tag: 3}, {Tag: 1, N: 1}}}
	ran(t, p, []int{4}, 5, api.Run{Out: api.Outcome{Kind: api.Done, Value: 5}, Steps: 5}, api.OK)
	ran(t, p, []int{4}, 4, api.Run{Out: api.Outcome{Kind: api.OutOfFuel}, Steps: 4}, api.OK)
	through(t, p, []int{4}, told{0, 5, 5, nil})
	through(t, p, []int{most}, told{0, least, 5, nil})
}

// Int and Bool tell their number.
func TestConstants(t *testing.T) {
	for _, n := range []int{0, 1, -1, 2, 77, least, least + 1, most - 1, most} {
		gives(t, num(n), n, 1)
	}
	holds(t, truth(0), 0, 1)
	holds(t, truth(1), 1, 1)
}

// Var tells a parameter's argument; another variable is 0 at first.
func TestVariables(t *testing.T) {
	gives(t, get(0), 5, 1)
	gives(t, get(1), -7, 1)
	gives(t, get(5), 0, 1)
	holds(t, get(2), 0, 1)
	holds(t, get(6), 0, 1)
	for _, n := range []int{0, 1, -1, least, most} {
		for i := range 12 { // each of twelve, if all are parameters, and if all but one are
			args := slices.Repeat([]int{mark}, 12)
			args[i] = n
			p := api.Program{Params: 12, Vars: make([]int, 12), Body: block(back(get(i))).list()}
			through(t, p, args, told{0, n, 3, nil})
			p.Params = 11
			if i == 11 {
				n = 0
			}
			through(t, p, args[:11], told{0, n, 3, nil})
		}
	}
	none := api.Program{Vars: []int{0}, Body: block(back(get(0))).list()}
	through(t, none, nil, told{0, 0, 3, nil})
	through(t, none, []int{}, told{0, 0, 3, nil})
}

// Set gives a variable another value, a parameter and another one, a number and a truth: it stays so, and the others stay as they were.
func TestSet(t *testing.T) {
	for _, n := range []int{0, 1, -1, least, most} {
		for _, v := range []int{0, 1, 5} {
			does(t, told{0, n, 5, []stored{{3, v, -1, n}}}, set(v, num(n)), back(get(v)))
			for _, other := range []int{0, 1, 5} {
				if other != v {
					was := []int{5, -7, 0, 0, 0, 0}[other]
					does(t, told{0, was, 5, []stored{{3, v, -1, n}}}, set(v, num(n)), back(get(other)))
				}
			}
		}
	}
	for _, n := range []int{0, 1} {
		does(t, told{0, 20 + n, 8, []stored{{3, 6, -1, n}}}, set(6, truth(n)), choice(get(6), block(back(num(21))), block(back(num(20)))))
		does(t, told{0, 20, 8, []stored{{3, 6, -1, n}}}, set(6, truth(n)), choice(get(2), block(back(num(21))), block(back(num(20)))))
	}
	does(t, told{0, 1, 17, []stored{{5, 5, -1, 6}, {9, 5, -1, 12}, {11, 0, -1, 12}, {15, 5, -1, 1}}},
		set(5, of(7, 0, get(0), num(1))), set(5, of(7, 0, get(5), get(5))), set(0, get(5)), set(5, of(10, 0, get(5), get(0))), back(get(5)))
	does(t, told{0, 3, 11, []stored{{4, 2, -1, 1}, {6, 2, -1, 0}}}, set(2, of(6, 0, get(2))), set(2, truth(0)), choice(get(2), block(back(num(4))), block(back(num(3)))))
}

// At tells what an array has at a place: all 0 at first. There is no place beside the first one and the last one.
func TestAt(t *testing.T) {
	for size := 1; size <= 8; size++ {
		p := api.Program{Vars: []int{size + 1}}
		for _, i := range []int{0, size - 1, size / 2, -1, size, size + 1, 8, least, least + 1, most - 1, most, -size, 1 << 32, -1 << 32, 1 << 62} {
			want := told{2, 0, 4, nil}
			if i >= 0 && i < size {
				want.kind = 0
			}
			p.Body = block(back(at(0, num(i)))).list()
			through(t, p, nil, want)
		}
	}
	gives(t, at(3, num(0)), 0, 2)
	gives(t, at(4, num(7)), 0, 2)
	gives(t, at(4, of(8, 0, get(0), num(5))), 0, 4)
	for _, x := range []tree{num(1), num(-1), get(0), get(1), num(least), num(most)} {
		traps(t, at(3, x), 2, 2)
	}
	traps(t, at(4, num(8)), 2, 2)
	traps(t, at(4, num(-1)), 2, 2)
	traps(t, at(4, at(3, num(1))), 2, 3)
	gives(t, at(4, at(3, at(4, num(5)))), 0, 4)
}

// Put gives an array another value at a place; all other places, and all other arrays, stay as they were.
func TestPut(t *testing.T) {
	for size := 1; size <= 8; size++ {
		p := api.Program{Vars: []int{size + 1, size + 1, 9}}
		for _, i := range []int{0, size - 1, size / 2, -1, size, size + 1, 8, least, least + 1, most - 1, most, -size, 1 << 32, -1 << 32, 1 << 62} {
			for _, n := range []int{0, 3, least, most} {
				if i < 0 || i >= size {
					p.Body = block(put(0, num(i), num(n)), back(num(0))).list()
					through(t, p, nil, told{2, 0, 4, nil})
					continue
				}
				for v := range 3 {
					for j := range []int{size, size, 8}[v] {
						want := told{0, 0, 7, []stored{{4, 0, i, n}}}
						if v == 0 && i == j {
							want.value = n
						}
						p.Body = block(put(0, num(i), num(n)), back(at(v, num(j)))).list()
						through(t, p, nil, want)
					}
				}
			}
		}
	}
	does(t, told{0, 30, 18, []stored{{4, 4, 1, 10}, {7, 4, 2, 20}, {13, 3, 0, 30}}},
		put(4, num(1), num(10)), put(4, num(2), num(20)), put(3, num(0), of(7, 0, num(10), at(4, num(2)))), back(of(9, 0, at(3, num(0)), num(1))))
	does(t, told{2, 0, 8, []stored{{4, 4, 1, 10}}}, put(4, num(1), num(10)), put(4, at(4, num(1)), num(20)))
	does(t, told{0, 2, 12, []stored{{4, 4, 7, 3}, {8, 4, 3, 2}}}, put(4, num(7), num(3)), put(4, at(4, num(7)), num(2)), back(at(4, at(4, num(7)))))
}

// Neg is 0 less the value, Not 1 less it.
func TestOfOne(t *testing.T) {
	for _, x := range [][2]int{{0, 0}, {1, -1}, {-1, 1}, {7, -7}, {most, -most}, {-most, most}, {least, least}, {least + 1, most}} {
		gives(t, of(5, 0, num(x[0])), x[1], 2)
		gives(t, of(5, 0, of(5, 0, num(x[1]))), x[1], 3)
	}
	gives(t, of(5, 0, get(1)), 7, 2)
	holds(t, of(6, 0, truth(0)), 1, 2)
	holds(t, of(6, 0, truth(1)), 0, 2)
	holds(t, of(6, 0, of(6, 0, truth(1))), 1, 3)
	holds(t, of(6, 0, get(2)), 1, 2)
}

// What is reckoned of two numbers goes round; what is divided is cut off towards 0.
func TestOfTwo(t *testing.T) {
	for _, x := range []struct{ tag, a, b, value int }{
		{7, 2, 3, 5}, {7, -2, 3, 1}, {7, most, 1, least}, {7, 1, most, least}, {7, least, -1, most}, {7, most, most, -2}, {7, least, least, 0}, {7, most, least, -1},
		{8, 2, 3, -1}, {8, 3, 2, 1}, {8, least, 1, most}, {8, most, -1, least}, {8, 0, least, least}, {8, most, least, -1}, {8, least, most, 1}, {8, -1, least, most},
		{9, 2, 3, 6}, {9, -2, 3, -6}, {9, -2, -3, 6}, {9, most, 2, -2}, {9, least, -1, least}, {9, least, 2, 0}, {9, most, most, 1}, {9, least, least, 0}, {9, 1 << 32, 1 << 32, 0}, {9, 3037000500, 3037000500, -9223372036709301616}, {9, 0, most, 0},
		{10, 7, 2, 3}, {10, -7, 2, -3}, {10, 7, -2, -3}, {10, -7, -2, 3}, {10, 1, 2, 0}, {10, -1, 2, 0}, {10, 0, 5, 0}, {10, 6, 3, 2}, {10, -6, 3, -2}, {10, least, -1, least}, {10, least, 1, least}, {10, most, -1, -most}, {10, least, least, 1}, {10, least, most, -1}, {10, most, least, 0}, {10, least, 2, -1 << 62}, {10, -most, -1, most},
		{11, 7, 2, 1}, {11, -7, 2, -1}, {11, 7, -2, 1}, {11, -7, -2, -1}, {11, 1, 2, 1}, {11, -1, 2, -1}, {11, 0, 5, 0}, {11, 6, 3, 0}, {11, -6, 3, 0}, {11, least, -1, 0}, {11, least, 1, 0}, {11, most, -1, 0}, {11, least, least, 0}, {11, least, most, -1}, {11, most, least, most}, {11, least, 3, -2}, {11, least, 10, -8},
	} {
		gives(t, of(x.tag, 0, num(x.a), num(x.b)), x.value, 3)
	}
	gives(t, of(8, 0, get(0), get(1)), 12, 3)
	gives(t, of(8, 0, of(8, 0, num(9), num(4)), of(8, 0, num(1), num(3))), 7, 7)
}

// A second value of 0 ends the run, whatever the first one is.
func TestByNought(t *testing.T) {
	for _, tag := range []int{10, 11} {
		for _, n := range []int{0, 1, -1, least, most} {
			traps(t, of(tag, 0, num(n), num(0)), 1, 3)
			gives(t, of(tag, 0, num(0), num(1-2*(n&1))), 0, 3)
		}
		traps(t, of(tag, 0, get(0), get(5)), 1, 3)
		traps(t, of(tag, 0, num(1), of(8, 0, get(0), num(5))), 1, 5)
		traps(t, of(tag, 0, num(1), at(4, num(3))), 1, 4)
	}
}

// The six that compare, at each two of these numbers.
func TestCompare(t *testing.T) {
	l := []int{least, least + 1, -2, -1, 0, 1, 2, most - 1, most} // they rise
	for i, a := range l {
		for j, b := range l {
			for tag, so := range map[int]bool{12: i == j, 13: i != j, 14: i < j, 15: i <= j, 16: i > j, 17: i >= j} {
				value := 0
				if so {
					value = 1
				}
				holds(t, of(tag, 0, num(a), num(b)), value, 3)
			}
		}
	}
	holds(t, of(14, 0, get(1), get(0)), 1, 3)
	holds(t, of(17, 0, of(8, 0, num(1), num(2)), of(8, 0, num(2), num(1))), 0, 7)
}

// And and Or enter their second kid only if the first one has not told it all: no unit is taken there, and no trap is met.
func TestJoined(t *testing.T) {
	yes, no := truth(1), truth(0)
	div, index := of(12, 0, num(1), of(10, 0, num(1), num(0))), of(12, 0, num(1), at(3, num(1)))
	for _, x := range []struct {
		tag, value, steps int
		a, b              tree
	}{
		{18, 0, 2, no, no}, {18, 0, 2, no, yes}, {18, 0, 3, yes, no}, {18, 1, 3, yes, yes},
		{19, 0, 3, no, no}, {19, 1, 3, no, yes}, {19, 1, 2, yes, no}, {19, 1, 2, yes, yes},
		{18, 0, 2, no, div}, {18, 0, 2, no, index}, {19, 1, 2, yes, div}, {19, 1, 2, yes, index},
		{18, 0, 2, get(2), div}, {19, 1, 3, of(6, 0, get(2)), div},
		{18, 0, 3, of(18, 0, no, div), div}, {18, 0, 4, of(18, 0, yes, no), div}, {18, 1, 5, of(18, 0, yes, yes), yes}, {18, 1, 5, yes, of(18, 0, yes, yes)},
		{19, 1, 3, of(19, 0, yes, div), div}, {19, 1, 4, of(19, 0, no, yes), div}, {19, 0, 5, of(19, 0, no, no), no}, {19, 0, 5, no, of(19, 0, no, no)},
		{18, 0, 4, of(19, 0, no, no), div}, {18, 0, 4, of(19, 0, yes, div), no}, {19, 1, 5, of(18, 0, yes, no), yes}, {19, 1, 4, of(18, 0, no, div), yes},
		{18, 1, 7, of(14, 0, num(1), num(2)), of(6, 0, of(6, 0, yes))}, {19, 0, 6, of(14, 0, num(2), num(1)), of(6, 0, yes)},
	} {
		holds(t, of(x.tag, 0, x.a, x.b), x.value, x.steps)
	}
	does(t, told{1, 0, 9, nil}, set(2, of(18, 0, yes, div)))
	does(t, told{1, 0, 9, nil}, set(2, of(19, 0, no, div)))
	does(t, told{2, 0, 8, nil}, set(2, of(18, 0, yes, index)))
	does(t, told{2, 0, 8, nil}, set(2, of(19, 0, no, index)))
	does(t, told{1, 0, 8, nil}, set(2, of(18, 0, div, no)))
	does(t, told{1, 0, 8, nil}, set(2, of(19, 0, div, yes)))
}

// The traps of a node come behind its kids: who has trapped before, or was out of fuel, is told.
func TestTrapsBehindKids(t *testing.T) {
	div, index := of(10, 0, num(1), num(0)), at(4, num(8))
	for _, tag := range []int{10, 11} {
		traps(t, of(tag, 0, index, num(0)), 2, 3)
		traps(t, of(tag, 0, num(1), index), 2, 4)
		traps(t, of(tag, 0, index, div), 2, 3)
		traps(t, of(tag, 0, div, index), 1, 4)
		traps(t, of(tag, 0, div, div), 1, 4)
		traps(t, of(tag, 0, num(0), of(tag, 0, num(0), num(0))), 1, 5)
	}
	for _, place := range []int{8, -1, least, most} {
		does(t, told{2, 0, 4, nil}, put(4, num(place), num(1)), back(num(1)))
		does(t, told{1, 0, 6, nil}, put(4, num(place), div), back(num(1)))
		does(t, told{2, 0, 5, nil}, put(4, num(place), at(3, num(1))))
		does(t, told{1, 0, 5, nil}, put(4, div, num(place)))
		does(t, told{2, 0, 4, nil}, put(4, index, div))
	}
	traps(t, at(4, div), 1, 4)
	traps(t, of(7, 0, div, index), 1, 4)
	traps(t, of(7, 0, index, div), 2, 3)
	traps(t, of(7, 0, num(1), div), 1, 5)
}
