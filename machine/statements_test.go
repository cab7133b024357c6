package machine_test

import (
	"slices"
	"testing"

	"offshoot/api"
)

// A Block does nothing but what its kids do, in order; a Skip does nothing. If the first node ends, the run does.
func TestBlock(t *testing.T) {
	does(t, told{3, 0, 1, nil})
	does(t, told{3, 0, 2, nil}, skip())
	does(t, told{3, 0, 2, nil}, block())
	does(t, told{3, 0, 3, nil}, skip(), skip())
	does(t, told{3, 0, 3, nil}, block(block()))
	does(t, told{3, 0, 7, nil}, block(), block(skip(), block()), skip(), block())
	does(t, told{3, 0, 5, []stored{{3, 5, -1, 1}, {5, 5, -1, 2}}}, set(5, num(1)), set(5, num(2)))
	does(t, told{0, 2, 11, []stored{{4, 5, -1, 1}, {7, 5, -1, 2}, {9, 0, -1, 3}}}, block(set(5, num(1)), block(set(5, num(2)))), set(0, num(3)), back(get(5)))
	for _, many := range []int{1, 2, 100, 199, 200} {
		does(t, told{3, 0, 1 + many, nil}, slices.Repeat([]tree{skip()}, many)...)
		want := told{3, 0, 1 + 2*many, nil}
		var l []tree
		for i := range many {
			l = append(l, set(1, num(i)))
			want.stored = append(want.stored, stored{3 + 2*i, 1, -1, i})
		}
		does(t, want, l...)
	}
}

// If enters its second kid where the first one is true, and its third one else: nothing of the other one.
func TestIf(t *testing.T) {
	yes, no := block(set(5, num(10))), block(put(4, num(2), num(20)))
	for _, x := range []struct {
		c            tree
		steps, truth int
	}{
		{truth(1), 1, 1}, {truth(0), 1, 0}, {get(2), 1, 0}, {of(6, 0, get(6)), 2, 1}, {of(14, 0, get(1), get(0)), 3, 1}, {of(14, 0, get(0), get(1)), 3, 0},
		{of(18, 0, truth(1), truth(1)), 3, 1}, {of(18, 0, truth(0), truth(1)), 2, 0},
	} {
		event := stored{6 + x.steps, 4, 2, 20}
		if x.truth == 1 {
			event = stored{5 + x.steps, 5, -1, 10}
		}
		does(t, told{3, 0, event.behind, []stored{event}}, choice(x.c, yes, no))
		does(t, told{0, 3, event.behind + 2, []stored{event}}, choice(x.c, yes, no), back(num(3)))
		does(t, told{3, 0, 3 + x.steps, nil}, choice(x.c, block(), block()))
		does(t, told{3, 0, 6 + x.steps, nil}, choice(x.c, block(skip(), skip()), block(block(), block())), skip())
		does(t, told{0, x.truth, 5 + x.steps, nil}, choice(x.c, block(back(num(1))), block(back(num(0)))), back(num(9)))
		does(t, told{0, x.truth, 10 + x.steps, nil}, block(choice(of(6, 0, x.c), block(choice(truth(1), block(back(num(0))), block())), block(choice(truth(0), block(), block(back(num(1))))))))
	}
	div := of(10, 0, num(1), num(0))
	trap := block(back(div))
	does(t, told{3, 0, 5, nil}, choice(truth(1), block(), trap), skip())
	does(t, told{3, 0, 5, nil}, choice(truth(0), trap, block()), skip())
	does(t, told{1, 0, 8, nil}, choice(truth(1), trap, block()))
	does(t, told{1, 0, 8, nil}, choice(truth(0), block(), trap))
	does(t, told{1, 0, 7, nil}, choice(of(12, 0, num(0), div), block(), block()))
}

// count is a While that goes round n times: variable 5 goes from n down to 0, behind the statements of each turn.
func count(n int, l ...tree) []tree {
	return []tree{set(5, num(n)), while(of(16, 0, get(5), num(0)), append(l, set(5, of(8, 0, get(5), num(1))))...)}
}

// While takes a unit of its own for each turn, and one more when it ends: each has those of its first kid, and all but the last one those of its second.
func TestWhile(t *testing.T) {
	does(t, told{3, 0, 3, nil}, while(truth(0)))
	does(t, told{3, 0, 3, nil}, while(truth(0), back(num(1))))
	does(t, told{3, 0, 3, nil}, while(truth(0), set(5, of(10, 0, num(1), num(0)))))
	does(t, told{0, 4, 6, nil}, while(get(2), set(5, num(1))), skip(), back(num(4)))
	does(t, told{1, 0, 7, nil}, while(of(12, 0, num(0), of(10, 0, num(1), num(0)))), skip())
	// Once: Block, Set, Bool; While, Var, Block, Set, Bool; While, Var.
	once := []tree{set(2, truth(1)), while(get(2), set(2, truth(0)))}
	does(t, told{3, 0, 10, []stored{{3, 2, -1, 1}, {8, 2, -1, 0}}}, once...)
	does(t, told{0, 6, 12, []stored{{3, 2, -1, 1}, {8, 2, -1, 0}}}, append(once, back(num(6)))...)
	for n := range 12 {
		// Block, Set, Int; n times While, Gt, Var, Int, Block, Set, Sub, Var, Int; While, Gt, Var, Int; Return, Var.
		want := told{0, 0, 3 + 9*n + 4 + 2, []stored{{3, 5, -1, n}}}
		for i := range n {
			want.stored = append(want.stored, stored{3 + 9*(i+1), 5, -1, n - 1 - i})
		}
		does(t, want, append(count(n), back(get(5)))...)
		want.steps += 3 * n
		for i := range n {
			want.stored[i+1].behind += 3 * (i + 1)
		}
		does(t, want, append(count(n, skip(), block(skip())), back(get(5)))...)
	}
}

// A While in another one begins anew in each turn of that one.
func TestWhileInWhile(t *testing.T) {
	inner := []tree{set(1, get(5)), while(of(16, 0, get(1), num(0)), set(1, of(8, 0, get(1), num(1))), set(0, of(7, 0, get(0), num(1))))}
	want := told{0, 5 + 3 + 2 + 1, 0, []stored{{3, 5, -1, 3}}}
	units, sum := 3, 5
	for k := 3; k > 0; k-- {
		units += 5 + 2 // While, Gt, Var, Int, Block; Set, Var
		want.stored = append(want.stored, stored{units, 1, -1, k})
		for i := k - 1; i >= 0; i-- { // While, Gt, Var, Int, Block; Set, Sub, Var, Int; Set, Add, Var, Int
			sum++
			want.stored = append(want.stored, stored{units + 9, 1, -1, i}, stored{units + 13, 0, -1, sum})
			units += 13
		}
		units += 4 + 4 // While, Gt, Var, Int; Set, Sub, Var, Int
		want.stored = append(want.stored, stored{units, 5, -1, k - 1})
	}
	want.steps = units + 4 + 2
	does(t, want, append(count(3, inner...), back(get(0)))...)
}

// A While that is never false goes round until there is no fuel.
func TestNoEnd(t *testing.T) {
	yes := truth(1)
	does(t, told{4, 0, 10000, nil}, while(yes))
	does(t, told{4, 0, 10000, nil}, while(yes), back(num(1)))
	does(t, told{4, 0, 10000, nil}, while(yes, while(truth(0)), skip()))
	does(t, told{4, 0, 10000, nil}, while(yes, while(yes, while(yes))))
	want := told{4, 0, 10000, nil}
	for i := 0; 8+7*i <= 10000; i++ { // Block; then While, Bool, Block, Set, Add, Var, Int
		want.stored = append(want.stored, stored{8 + 7*i, 5, -1, 1 + i})
	}
	does(t, want, while(yes, set(5, of(7, 0, get(5), num(1)))))
	want.stored = nil
	for i := 0; 7+6*i <= 10000; i++ { // Block; then While, Bool, Block, Put, Int, Int
		want.stored = append(want.stored, stored{7 + 6*i, 4, 6, 3})
	}
	does(t, want, while(yes, put(4, num(6), num(3))), set(5, num(1)))
}

// Return ends the run, wherever it stands: what stands behind it is not entered.
func TestReturn(t *testing.T) {
	ret, other, yes, no := back(num(42)), set(5, num(1)), truth(1), truth(0)
	for _, x := range []struct {
		steps int
		l     []tree
	}{
		{3, []tree{ret}},
		{4, []tree{skip(), ret}},
		{4, []tree{block(ret)}},
		{6, []tree{block(block(), block(ret, other), other)}},
		{6, []tree{choice(yes, block(ret, other), block(other))}},
		{6, []tree{choice(no, block(other), block(ret, other))}},
		{6, []tree{while(yes, ret, other)}},
		{8, []tree{while(yes, while(no, other), ret, other)}},
		{8, []tree{while(no, other), while(yes, ret, other)}},
		{13, []tree{while(yes, block(choice(yes, block(while(yes, ret), other), block())), other)}},
	} {
		want := told{0, 42, x.steps, nil}
		does(t, want, x.l...)
		does(t, want, append(slices.Clone(x.l), other)...)
		does(t, want, append(slices.Clone(x.l), back(num(7)))...)
		does(t, want, append(slices.Clone(x.l), while(yes), back(of(10, 0, num(1), num(0))))...)
	}
	// In the turn that comes third: two of 14 units lie ahead, and then While, Gt, Var, Int, Block; If, Eq, Var, Int; Block, Return, Var.
	l := count(9, choice(of(12, 0, get(5), num(7)), block(back(get(5))), block()))
	does(t, told{0, 7, 3 + 2*14 + 12, []stored{{3, 5, -1, 9}, {17, 5, -1, 8}, {31, 5, -1, 7}}}, l...)
	for _, n := range []int{0, 1, -1, least, most} {
		does(t, told{0, n, 3, nil}, back(num(n)), other)
	}
}

// If all is done and no Return was met, the run ends: behind all that was stored, without a value.
func TestEnd(t *testing.T) {
	one := set(5, num(77))
	does(t, told{3, 0, 3, []stored{{3, 5, -1, 77}}}, one)
	does(t, told{3, 0, 6, []stored{{6, 5, -1, 77}}}, block(block(block(one))))
	does(t, told{3, 0, 6, []stored{{6, 5, -1, 77}}}, choice(truth(0), block(back(num(1))), block(one)))
	does(t, told{3, 0, 5, []stored{{3, 5, -1, 77}}}, one, while(truth(0), one))
	does(t, told{3, 0, 4, []stored{{4, 3, 0, 77}}}, put(3, num(0), num(77)))
}

// What a node asks is what its own kids told: statements ahead leave no value behind.
func TestNoneBehind(t *testing.T) {
	does(t, told{0, 3, 8, []stored{{4, 4, 1, 9}}}, put(4, num(1), num(9)), block(), back(of(5, 0, num(-3))))
	p := api.Program{Vars: []int{1}, Body: block(while(get(0)), set(0, truth(1)), choice(get(0), block(back(num(1))), block(back(num(2))))).list()}
	through(t, p, nil, told{0, 1, 10, []stored{{5, 0, -1, 1}}})
}
