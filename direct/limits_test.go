package direct_test

import (
	"slices"
	"strings"
	"testing"

	"offshoot/api"
	"offshoot/kinds"
)

// A program of 200 nodes that takes just 10000 units, and one that takes one more.
func TestGreatest(t *testing.T) {
	// Block, Set, Int; 80 times While, Gt, Var, Int, Block, 115 Skips, Set, Sub, Var, Int; While, Gt, Var, Int; 71 Skips; Return, Var.
	skips := slices.Repeat([]string{"Skip"}, 115)
	loop := count(80, skips...)
	want := told{0, 0, 10000, []stored{{3, 5, -1, 80}}}
	for i := range 80 {
		want.stored = append(want.stored, stored{3 + 124*(i+1), 5, -1, 79 - i})
	}
	l := slices.Concat(loop, skips[:71], []string{"Return Var 5"})
	if p := hand(l...); len(p.Body) != 200 || kinds.Check(p) != api.OK {
		t.Fatalf("%d nodes, %v", len(p.Body), kinds.Check(p))
	}
	does(t, want, l...)
	want.kind = 4
	does(t, want, slices.Concat(loop, skips[:72], []string{"Return Var 5"})...)
	want.kind = 3
	does(t, want, slices.Concat(loop, skips[:73])...)
}

// large holds a program that is too large to be gone through at each fuel against what it must tell at some of them.
func large(t *testing.T, want told, l ...string) {
	t.Helper()
	p := hand(l...)
	some := []int{10000}
	if want.steps <= 10000 {
		some = append(some, 0, want.steps-1, want.steps)
	}
	for _, fuel := range some {
		both(t, p, arguments(), fuel, want.by(fuel), api.OK)
	}
}

// times is a text, so many times.
func times(n int, text string) string { return strings.Repeat(text+" ", n) }

// A nest is a statement of many nodes, each below another one, and what a program of it must tell if there is fuel enough.
type nest struct {
	text string
	told told
}

// nests are ways to nest nodes, so many times.
func nests(n int) []nest {
	back := func(x string, kind, value, units int) nest {
		return nest{"Return " + x, told{kind, value, 2 + units, nil}}
	}
	truth := func(x string, value, units int) nest {
		return nest{"Set 2 " + x, told{3, 0, 2 + units, []stored{{2 + units, 2, -1, value}}}}
	}
	return []nest{
		{times(n, "Block 1") + "Skip", told{3, 0, 2 + n, nil}},
		{times(n, "Block 3 Skip") + "Return Int 9 " + times(n, "Skip"), told{0, 9, 3 + 2*n, nil}},
		{times(n, "If Bool 1 Block 1") + "Return Int 9 " + times(n, "Block 0"), told{0, 9, 3 + 3*n, nil}},
		{times(n, "If Bool 0 Block 0 Block 1") + "Return Int 9", told{0, 9, 3 + 3*n, nil}},
		{times(n, "If Bool 0 Block 0 Block 1") + "Skip", told{3, 0, 2 + 3*n, nil}},
		{times(n, "While Bool 1 Block 1") + "Return Int 9", told{0, 9, 3 + 3*n, nil}},
		back(times(n, "Neg")+"Int 7", 0, 7-14*(n%2), n+1),
		back(times(n, "At 4")+"Int 0", 0, 0, n+1),
		back(times(n, "At 4")+"Int 8", 2, 0, n+1),
		back(times(n, "Add")+"Int 0 "+times(n, "Int 1"), 0, n, 2*n+1),
		back(times(n, "Sub Int 1")+"Int 0", 0, n%2, 2*n+1),
		truth(times(n, "Not")+"Bool 1", 1-n%2, n+1),
		truth(times(n, "And")+"Bool 1 "+times(n, "Bool 1"), 1, 2*n+1),
		truth(times(n, "And")+"Bool 0 "+times(n, "Bool 1"), 0, n+1),
		truth(times(n, "And Bool 1")+"Bool 1", 1, 2*n+1),
		truth(times(n, "Or")+"Bool 0 "+times(n, "Bool 0"), 0, 2*n+1),
		truth(times(n, "Or")+"Bool 1 "+times(n, "Bool 0"), 1, n+1),
		truth(times(n, "Or Bool 0")+"Bool 1", 1, 2*n+1),
	}
}

// The deepest nests that there can be, and the deepest ones that can be gone through: each node is entered ahead of all below it.
func TestDeep(t *testing.T) {
	for _, n := range []int{1, 2, 30, 3333, 4999, 9997, 9998, 1 << 16} {
		for _, x := range nests(n) {
			large(t, x.told, x.text)
		}
	}
}

// What is passed over takes no unit, however much it is, and however often.
func TestPassedOver(t *testing.T) {
	full := "Block 200 " + times(200, "Skip")
	wide := "Block 50 " + times(50, "Block 20 "+times(20, full))
	deep := "Block 1 Set 5 " + times(1<<16, "Neg") + "Int 1"
	for _, x := range []string{wide, deep} {
		want := told{4, 0, 10000, nil}
		for i := 0; 9+8*i <= 10000; i++ { // Block; then While, Bool, Block, If, Bool, Block, Set, Var
			want.stored = append(want.stored, stored{9 + 8*i, 1, -1, 5})
		}
		large(t, want, "While Bool 1 Block 1 If Bool 1 Block 1 Set 1 Var 0 "+x)
		large(t, want, "While Bool 1 Block 1 If Bool 0 "+x+" Block 1 Set 1 Var 0")
		large(t, told{0, 6, 5, nil}, "While Bool 0 "+x, "Return Int 6")
		large(t, told{0, 6, 7, nil}, "If Bool 1 Block 0 "+x, "Block 0", "Return Int 6")
	}
	truth := "Eq Int 1 " + times(1<<16, "Neg") + "Int 1"
	large(t, told{3, 0, 6, []stored{{4, 2, -1, 0}, {6, 5, -1, 3}}}, "Set 2 And Bool 0 "+truth, "Set 5 Int 3")
	large(t, told{3, 0, 6, []stored{{4, 2, -1, 1}, {6, 5, -1, 3}}}, "Set 2 Or Bool 1 "+truth, "Set 5 Int 3")
	large(t, told{4, 0, 10000, nil}, "While Not And Bool 0 "+truth+" Block 0")
	large(t, told{4, 0, 10000, nil}, "While Or Bool 1 "+truth+" Block 0")
}
