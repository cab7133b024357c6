package direct_test

import (
	"math"
	"slices"
	"strconv"
	"strings"
	"testing"

	"offshoot/api"
	"offshoot/direct"
	"offshoot/machine"
)

const least, most = math.MinInt, math.MaxInt

// nodes are those that a text tells, as the chapters do: each one's name, and its number, if that is not 0.
func nodes(text string) []api.Node {
	names := strings.Fields("none Int Bool Var At Neg Not Add Sub Mul Div Mod Eq Ne Lt Le Gt Ge And Or Block Set Put If While Return Skip")
	var l []api.Node
	for _, w := range strings.Fields(text) {
		if n, err := strconv.Atoi(w); err == nil {
			l[len(l)-1].N = n
		} else {
			l = append(l, api.Node{Tag: slices.Index(names, w)})
		}
	}
	return l
}

// with is a text that tells a name, and a number.
func with(name string, n int) string { return name + " " + strconv.Itoa(n) }

// block is a text that tells a Block of statements.
func block(l ...string) string { return with("Block", len(l)) + " " + strings.Join(l, " ") }

// variables are those of the programs that are told by hand: 0 and 1 are parameters, 2 and 6 truths, 3 an array of one number, 4 one of eight, and 5 a number.
func variables() []int { return []int{0, 0, 1, 2, 9, 0, 1} }

// arguments are what these programs are given, if nothing else is told.
func arguments() []int { return []int{5, -7} }

// hand is a program of these statements.
func hand(l ...string) api.Program {
	return api.Program{Params: 2, Vars: variables(), Body: nodes(block(l...))}
}

// stored is an event, and how many units were taken by then.
type stored struct{ behind, n, at, value int }

// told is what a run must tell that has as much fuel as it takes, or 10000.
type told struct {
	kind, value, steps int
	stored             []stored
}

// by is the run that has so much fuel.
func (x told) by(fuel int) api.Run {
	r := api.Run{Out: api.Outcome{Kind: x.kind, Value: x.value}, Steps: x.steps}
	if fuel < x.steps {
		r.Out, r.Steps = api.Outcome{Kind: 4}, fuel
	}
	for _, s := range x.stored {
		if s.behind <= fuel {
			r.Events = append(r.Events, api.Event{Var: s.n, At: s.at, Value: s.value})
		}
	}
	return r
}

// mark stands in the room behind lists, and in lists that are spoiled.
const mark = -7777777

// roomy is a list with room behind it, full of another thing.
func roomy[T any](l []T, other T) []T {
	return slices.Concat(l, slices.Repeat([]T{other}, 4))[:len(l)]
}

// kept tells whether a roomy list, and the room behind it, are as they were.
func kept[T comparable](l, was []T, other T) bool {
	return slices.Equal(l, was) && slices.Equal(l[len(l):len(l)+4], slices.Repeat([]T{other}, 4))
}

// short is the beginning of a list: enough to be told.
func short[T any](l []T) []T { return l[:min(len(l), 40)] }

// alike tells whether runs are alike.
func alike(a, b api.Run) bool {
	return a.Out == b.Out && a.Steps == b.Steps && slices.Equal(a.Events, b.Events)
}

// ran holds Run and Out, each asked twice, against what they must tell. Nothing that was given is changed, not even behind its end, and who changes one answer does not change the other one.
func ran(t *testing.T, p api.Program, args []int, fuel int, want api.Run, wrong api.Errno) {
	t.Helper()
	given, by := api.Program{Params: p.Params, Vars: roomy(p.Vars, mark), Body: roomy(p.Body, api.Node{Tag: mark})}, roomy(args, mark)
	first, e := direct.Run(given, by, fuel)
	out := direct.Out(given, by, fuel)
	second, f := direct.Run(given, by, fuel)
	for _, r := range []api.Run{first, second} {
		if !alike(r, want) || e != wrong || f != wrong {
			t.Fatalf("Run of %d, %v, %v with %v and %d: %v %d %v of %d, %v, not %v %d %v of %d, %v", p.Params, short(p.Vars), short(p.Body), short(args), fuel,
				r.Out, r.Steps, short(r.Events), len(r.Events), e, want.Out, want.Steps, short(want.Events), len(want.Events), wrong)
		}
	}
	if again := direct.Out(given, by, fuel); out != want.Out || again != want.Out {
		t.Fatalf("Out of %d, %v, %v with %v and %d: %v, then %v, not %v", p.Params, short(p.Vars), short(p.Body), short(args), fuel, out, again, want.Out)
	}
	l := first.Events[:cap(first.Events)]
	for i := range l {
		l[i] = api.Event{Var: mark}
	}
	if !alike(second, want) {
		t.Fatalf("%v, once another answer was changed", short(second.Events))
	}
	if given.Params != p.Params || !kept(given.Vars, p.Vars, mark) || !kept(given.Body, p.Body, api.Node{Tag: mark}) || !kept(by, args, mark) {
		t.Fatalf("of %v, %v with %v is left: %v, %v, %v", short(p.Vars), short(p.Body), short(args), given.Vars, short(given.Body), by)
	}
}

// both holds Run and Out against what they must tell, and the other way to run a program, too.
func both(t *testing.T, p api.Program, args []int, fuel int, want api.Run, wrong api.Errno) {
	t.Helper()
	ran(t, p, args, fuel, want, wrong)
	if other, e := machine.Run(p, args, fuel); !alike(other, want) || e != wrong {
		t.Fatalf("machine.Run of %d, %v, %v with %v and %d: %v %d %v, %v, not %v %d %v, %v", p.Params, short(p.Vars), short(p.Body), short(args), fuel,
			other.Out, other.Steps, short(other.Events), e, want.Out, want.Steps, short(want.Events), wrong)
	}
}

// refused holds that a program is not run, but an error told.
func refused(t *testing.T, p api.Program, args []int, fuel int, e api.Errno) {
	t.Helper()
	both(t, p, args, fuel, api.Run{}, e)
}

// fuels are each one from none to a bit more than so many units, and the most. If they are many, there are gaps between the later ones.
func fuels(steps int) []int {
	l := []int{max(0, steps-1), min(steps, 10000), 9999, 10000}
	for fuel := 0; fuel <= min(steps+3, 10000); fuel++ {
		if fuel > 200 {
			fuel += steps / 25
		}
		l = append(l, min(fuel, 10000))
	}
	return l
}

// through holds a program against what it must tell, at each fuel from none to what it takes, and at more; and against the other way.
func through(t *testing.T, p api.Program, args []int, want told) {
	t.Helper()
	for _, fuel := range fuels(want.steps) {
		both(t, p, args, fuel, want.by(fuel), api.OK)
	}
}

// does holds a program of these statements against what it must tell.
func does(t *testing.T, want told, l ...string) {
	t.Helper()
	through(t, hand(l...), arguments(), want)
}

// gives holds that a number is this, and that it takes so many units: if it is returned, and if it is stored.
func gives(t *testing.T, x string, value, steps int) {
	t.Helper()
	does(t, told{0, value, 2 + steps, nil}, "Return "+x)
	does(t, told{0, value, 4 + steps, []stored{{2 + steps, 5, -1, value}}}, "Set 5 "+x, "Return Var 5")
	does(t, told{0, value, 6 + steps, []stored{{3 + steps, 4, 7, value}}}, "Put 4 Int 7 "+x, "Return At 4 Int 7")
}

// holds holds that a truth is this, and that it takes so many units: if it is stored, and if it is asked.
func holds(t *testing.T, x string, value, steps int) {
	t.Helper()
	does(t, told{3, 0, 2 + steps, []stored{{2 + steps, 2, -1, value}}}, "Set 2 "+x)
	does(t, told{0, 8 + value, 5 + steps, nil}, "If "+x+" Block 1 Return Int 9 Block 1 Return Int 8")
}

// traps holds that a number ends the run so, behind so many units: wherever it stands.
func traps(t *testing.T, x string, kind, steps int) {
	t.Helper()
	does(t, told{kind, 0, 2 + steps, nil}, "Return "+x)
	does(t, told{kind, 0, 2 + steps, nil}, "Set 5 "+x, "Return Int 1")
	does(t, told{kind, 0, 2 + steps, nil}, "Put 4 "+x+" Int 3")
	does(t, told{kind, 0, 3 + steps, nil}, "Put 4 Int 99 "+x, "Return Int 1")
	does(t, told{kind, 0, 4 + steps, nil}, "While Eq Int 0 "+x+" Block 0")
	does(t, told{kind, 0, 7 + steps, nil}, "Skip", "If Bool 1 Block 1 Return Neg "+x+" Block 0", "Skip")
}
