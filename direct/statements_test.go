package direct_test

import (
	"slices"
	"strings"
	"testing"

	"offshoot/api"
)

// A Block does nothing but what its kids do, in order; a Skip does nothing. If the first node ends, the run does.
func TestBlock(t *testing.T) {
	does(t, told{3, 0, 1, nil})
	does(t, told{3, 0, 2, nil}, "Skip")
	does(t, told{3, 0, 2, nil}, "Block 0")
	does(t, told{3, 0, 7, nil}, "Block 0", "Block 2 Skip Block 0", "Skip", "Block 0")
	does(t, told{0, 2, 11, []stored{{4, 5, -1, 1}, {7, 5, -1, 2}, {9, 0, -1, 3}}}, "Block 2 Set 5 Int 1 Block 1 Set 5 Int 2", "Set 0 Int 3", "Return Var 5")
	for _, many := range []int{1, 2, 100, 199, 200} {
		does(t, told{3, 0, 1 + many, nil}, slices.Repeat([]string{"Skip"}, many)...)
		want := told{3, 0, 1 + 2*many, nil}
		var l []string
		for i := range many {
			l = append(l, with("Set 1 Int", i))
			want.stored = append(want.stored, stored{3 + 2*i, 1, -1, i})
		}
		does(t, want, l...)
	}
}

// Set gives a variable another value: a parameter, another number, a truth. It stays so, and the others stay as they were.
func TestSet(t *testing.T) {
	was := map[int]int{0: 5, 1: -7, 5: 0}
	for _, n := range []int{0, 1, -1, least, most} {
		for v := range was {
			for other, value := range was {
				if other == v {
					value = n
				}
				does(t, told{0, value, 5, []stored{{3, v, -1, n}}}, with("Set", v)+with(" Int", n), with("Return Var", other))
			}
		}
	}
	for n := range 2 {
		does(t, told{0, 20 + n, 8, []stored{{3, 6, -1, n}}}, with("Set 6 Bool", n), "If Var 6 Block 1 Return Int 21 Block 1 Return Int 20")
		does(t, told{0, 20, 8, []stored{{3, 6, -1, n}}}, with("Set 6 Bool", n), "If Var 2 Block 1 Return Int 21 Block 1 Return Int 20")
	}
	does(t, told{0, 1, 17, []stored{{5, 5, -1, 6}, {9, 5, -1, 12}, {11, 0, -1, 12}, {15, 5, -1, 1}}}, "Set 5 Add Var 0 Int 1", "Set 5 Add Var 5 Var 5", "Set 0 Var 5", "Set 5 Div Var 5 Var 0", "Return Var 5")
}

// Put gives an array another value at a place, if there is such a place; all other places, and all other arrays, stay as they were.
func TestPut(t *testing.T) {
	for size := 1; size <= 8; size++ {
		p := api.Program{Vars: []int{size + 1, size + 1, 0}}
		for _, i := range []int{0, size - 1, size / 2, -1, size, size + 1, 8, least, least + 1, most - 1, most, -size, 1 << 32, -1 << 32} {
			put := with("Put 0 Int", i) + " Int 9"
			if i < 0 || i >= size {
				p.Body = nodes(block(put, "Return Int 1"))
				through(t, p, nil, told{2, 0, 4, nil})
				continue
			}
			for other := range 2 * size {
				want := told{0, 0, 7, []stored{{4, 0, i, 9}}}
				if other == i {
					want.value = 9
				}
				p.Body = nodes(block(put, with("Return At", other/size)+with(" Int", other%size)))
				through(t, p, nil, want)
			}
		}
	}
	for _, n := range []int{0, 1, -1, least, most} {
		does(t, told{0, n, 7, []stored{{4, 3, 0, n}}}, with("Put 3 Int 0 Int", n), "Return At 3 Int 0")
	}
	does(t, told{0, 3, 11, []stored{{4, 4, 1, 9}, {8, 4, 1, 3}}}, "Put 4 Int 1 Int 9", "Put 4 Int 1 Neg Int -3", "Return At 4 Int 1")
	does(t, told{0, 0, 13, []stored{{4, 4, 5, 2}, {10, 4, 2, -7}}}, "Put 4 Var 0 Int 2", "Put 4 At 4 Add Int 2 Int 3 Var 1", "Return At 4 Var 5")
}

// Each Set and each Put is an event, in the order in which they are done, even if that was there before.
func TestEvents(t *testing.T) {
	does(t, told{0, 14, 38, []stored{{3, 0, -1, 9}, {5, 1, -1, 9}, {8, 4, 0, 9}, {11, 4, 0, 9}, {14, 3, 0, 9}, {17, 2, -1, 0}, {21, 6, -1, 1}, {25, 4, 7, -9}, {29, 5, -1, 5}, {33, 5, -1, 14}}},
		"Set 0 Int 9", "Set 1 Var 0", "Put 4 Int 0 Var 1", "Put 4 Int 0 Int 9", "Put 3 Int 0 Var 0", "Set 2 Not Bool 1", "Set 6 Lt Int 1 Int 2", "Put 4 Int 7 Neg Var 0",
		"Set 5 Add Int 2 Int 3", "Set 5 Add Var 5 Int 9", "If Var 2 Block 1 Set 0 Int 1 Block 1 Return Var 5", "Set 0 Int 2")
	does(t, told{3, 0, 11, []stored{{3, 5, -1, 0}, {6, 4, 3, 0}, {8, 5, -1, 0}, {11, 4, 3, 0}}}, slices.Repeat([]string{"Set 5 Int 0", "Put 4 Int 3 Int 0"}, 2)...)
}

// A store that is not reached, or whose kids trap, or that has no such place, is no event, and stores nothing.
func TestNoEvent(t *testing.T) {
	const set = "Set 5 Int 2"
	for _, x := range []struct {
		kind, steps int
		l           []string
	}{
		{1, 7, []string{"Set 5 Div Int 1 Int 0", set}},
		{2, 6, []string{"Set 5 At 3 Int 1", set}},
		{1, 8, []string{"Put 4 Int 1 Div Int 1 Int 0", set}},
		{1, 7, []string{"Put 4 Div Int 1 Int 0 Int 1", set}},
		{2, 6, []string{"Put 4 Int 8 Int 2", set}},
		{2, 6, []string{"Put 3 Int 1 Int 2", set}},
		{0, 5, []string{"Return Int 0", set}},
		{3, 9, []string{"While Bool 0 " + block(set), "If Bool 1 Block 1 Skip " + block(set)}},
		{4, 10000, []string{"While Bool 1 Block 0", set}},
	} {
		does(t, told{x.kind, 0, x.steps, []stored{{3, 5, -1, 1}}}, append([]string{"Set 5 Int 1"}, x.l...)...)
	}
}

// If enters its second kid where the first one is true, and its third one else: nothing of the other one.
func TestIf(t *testing.T) {
	for _, x := range []struct {
		c            string
		steps, truth int
	}{
		{"Bool 1", 1, 1}, {"Bool 0", 1, 0}, {"Var 2", 1, 0}, {"Not Var 6", 2, 1}, {"Lt Var 1 Var 0", 3, 1}, {"Lt Var 0 Var 1", 3, 0}, {"And Bool 1 Bool 1", 3, 1}, {"And Bool 0 Bool 1", 2, 0},
	} {
		both := "If " + x.c + " Block 1 Set 5 Int 10 Block 1 Put 4 Int 2 Int 20"
		event := stored{6 + x.steps, 4, 2, 20}
		if x.truth == 1 {
			event = stored{5 + x.steps, 5, -1, 10}
		}
		does(t, told{3, 0, event.behind, []stored{event}}, both)
		does(t, told{0, 3, event.behind + 2, []stored{event}}, both, "Return Int 3")
		does(t, told{3, 0, 3 + x.steps, nil}, "If "+x.c+" Block 0 Block 0")
		does(t, told{3, 0, 6 + x.steps, nil}, "If "+x.c+" Block 2 Skip Skip Block 2 Block 0 Block 0", "Skip")
		does(t, told{0, x.truth, 5 + x.steps, nil}, "If "+x.c+" Block 1 Return Int 1 Block 1 Return Int 0", "Return Int 9")
	}
	const trap = " Block 1 Return Div Int 1 Int 0"
	does(t, told{3, 0, 5, nil}, "If Bool 1 Block 0"+trap, "Skip")
	does(t, told{3, 0, 5, nil}, "If Bool 0"+trap+" Block 0", "Skip")
	does(t, told{1, 0, 8, nil}, "If Bool 1"+trap+" Block 0", "Skip")
	does(t, told{1, 0, 8, nil}, "If Bool 0 Block 0"+trap, "Skip")
	does(t, told{1, 0, 7, nil}, "If Eq Int 0 Div Int 1 Int 0 Block 0 Block 0")
	does(t, told{0, 8, 13, nil}, "If Bool 0"+trap+" Block 2 If Bool 1 Block 1 Skip"+trap+" If Bool 1 Block 1 Return Int 8"+trap)
}

// count are statements that have variable 5 go from n down to 0, in a While; each turn does some more ahead.
func count(n int, l ...string) []string {
	return []string{with("Set 5 Int", n), "While Gt Var 5 Int 0 " + block(append(l, "Set 5 Sub Var 5 Int 1")...)}
}

// While takes a unit of its own for each turn, and one more when it ends: each has those of its first kid, and all but the last one those of its second.
func TestWhile(t *testing.T) {
	does(t, told{3, 0, 3, nil}, "While Bool 0 Block 0")
	does(t, told{0, 4, 5, nil}, "While Bool 0 Block 1 Return Int 1", "Return Int 4")
	does(t, told{0, 4, 6, nil}, "While Var 2 Block 1 Set 5 Div Int 1 Int 0", "Skip", "Return Int 4")
	does(t, told{1, 0, 7, nil}, "While Eq Int 0 Div Int 1 Int 0 Block 0", "Skip")
	// Once: Block, Set, Bool; While, Var, Block, Set, Bool; While, Var; Return, Int.
	does(t, told{0, 6, 12, []stored{{3, 2, -1, 1}, {8, 2, -1, 0}}}, "Set 2 Bool 1", "While Var 2 Block 1 Set 2 Bool 0", "Return Int 6")
	for n := range 12 {
		// Block, Set, Int; n times While, Gt, Var, Int, Block, and then Set, Sub, Var, Int; While, Gt, Var, Int; Return, Var.
		for more, l := range [][]string{{}, {"Skip"}, {"Block 1 Skip"}, {"Skip", "Block 1 Skip"}} {
			turn := 9 + more
			want := told{0, 0, 3 + turn*n + 4 + 2, []stored{{3, 5, -1, n}}}
			for i := range n {
				want.stored = append(want.stored, stored{3 + turn*(i+1), 5, -1, n - 1 - i})
			}
			does(t, want, append(count(n, l...), "Return Var 5")...)
		}
	}
	// A While in another one begins anew in each turn: While, Gt, Var, Int, Block; Set, Bool; While, Var, Block, Set, Bool; While, Var; Set, Sub, Var, Int.
	want := told{3, 0, 3 + 18 + 18 + 4, []stored{{3, 5, -1, 2}, {10, 2, -1, 1}, {15, 2, -1, 0}, {21, 5, -1, 1}, {28, 2, -1, 1}, {33, 2, -1, 0}, {39, 5, -1, 0}}}
	does(t, want, count(2, "Set 2 Bool 1", "While Var 2 Block 1 Set 2 Bool 0")...)
}

// A While that is never false goes round until there is no fuel.
func TestNoEnd(t *testing.T) {
	none := told{4, 0, 10000, nil}
	does(t, none, "While Bool 1 Block 0", "Return Int 1")
	does(t, none, "While Bool 1 Block 2 While Bool 0 Block 0 Skip")
	does(t, none, "While Bool 1 Block 1 While Bool 1 Block 1 While Bool 1 Block 0")
	want := none
	for i := 0; 8+7*i <= 10000; i++ { // Block; then While, Bool, Block, Set, Add, Var, Int
		want.stored = append(want.stored, stored{8 + 7*i, 5, -1, 1 + i})
	}
	does(t, want, "While Bool 1 Block 1 Set 5 Add Var 5 Int 1")
	want.stored = nil
	for i := 0; 7+6*i <= 10000; i++ { // Block; then While, Bool, Block, Put, Int, Int
		want.stored = append(want.stored, stored{7 + 6*i, 4, 6, 3})
	}
	does(t, want, "While Bool 1 Block 1 Put 4 Int 6 Int 3", "Set 5 Int 1")
}

// Return ends the run, wherever it stands: what stands behind it is not entered.
func TestReturn(t *testing.T) {
	const ret, other = "Return Int 42 ", "Set 5 Int 1 "
	for _, x := range []struct {
		steps int
		text  string
	}{
		{3, ret},
		{4, "Block 1 " + ret},
		{6, "Block 3 Block 0 Block 2 " + ret + other + other},
		{6, "If Bool 1 Block 2 " + ret + other + "Block 1 " + other},
		{6, "If Bool 0 Block 1 " + other + "Block 2 " + ret + other},
		{6, "While Bool 1 Block 2 " + ret + other},
		{8, "While Bool 1 Block 3 While Bool 0 Block 1 " + other + ret + other},
		{13, "While Bool 1 Block 2 Block 1 If Bool 1 Block 2 While Bool 1 Block 1 " + ret + other + "Block 0 " + other},
	} {
		want := told{0, 42, x.steps, nil}
		does(t, want, x.text)
		does(t, want, x.text, other)
		does(t, want, x.text, "Return Int 7")
		does(t, want, x.text, "While Bool 1 Block 0", "Return Div Int 1 Int 0")
		want.steps++
		does(t, want, "Skip", x.text, other)
	}
	// In the turn that comes third: two of 14 units lie ahead, and then While, Gt, Var, Int, Block; If, Eq, Var, Int; Block, Return, Var.
	does(t, told{0, 7, 3 + 2*14 + 12, []stored{{3, 5, -1, 9}, {17, 5, -1, 8}, {31, 5, -1, 7}}}, count(9, "If Eq Var 5 Int 7 Block 1 Return Var 5 Block 0")...)
	for _, n := range []int{0, 1, -1, least, most} {
		does(t, told{0, n, 3, nil}, with("Return Int", n), other)
	}
}

// If all is done and no Return was met, the run ends: behind all that was stored, without a value.
func TestEnd(t *testing.T) {
	const one = "Set 5 Int 77"
	does(t, told{3, 0, 3, []stored{{3, 5, -1, 77}}}, one)
	does(t, told{3, 0, 6, []stored{{6, 5, -1, 77}}}, strings.Repeat("Block 1 ", 3)+one)
	does(t, told{3, 0, 6, []stored{{6, 5, -1, 77}}}, "If Bool 0 Block 1 Return Int 1 Block 1 "+one)
	does(t, told{3, 0, 5, []stored{{3, 5, -1, 77}}}, one, "While Bool 0 Block 1 Return Int 1")
	does(t, told{3, 0, 4, []stored{{4, 3, 0, 77}}}, "Put 3 Int 0 Int 77")
}
