package machine_test

import (
	"math/big"
	"slices"
	"testing"

	"offshoot/api"
	"offshoot/direct"
	"offshoot/machine"
)

// tree is a node with its kids.
type tree struct {
	node api.Node
	kids []tree
}

// of is a tree of a tag, a number, and kids.
func of(tag, n int, kids ...tree) tree { return tree{api.Node{Tag: tag, N: n}, kids} }

// The trees of tags whose names would be long: numbers and truths, variables, and statements.
func num(n int) tree                { return of(1, n) }
func truth(n int) tree              { return of(2, n) }
func get(n int) tree                { return of(3, n) }
func at(n int, place tree) tree     { return of(4, n, place) }
func block(kids ...tree) tree       { return of(20, len(kids), kids...) }
func set(n int, x tree) tree        { return of(21, n, x) }
func put(n int, place, x tree) tree { return of(22, n, place, x) }
func choice(c, yes, no tree) tree   { return of(23, 0, c, yes, no) }
func while(c tree, l ...tree) tree  { return of(24, 0, c, block(l...)) }
func back(x tree) tree              { return of(25, 0, x) }
func skip() tree                    { return of(26, 0) }

// nested is a tag so many times, each the one kid of the one above, and a tree below.
func nested(tag, n, times int, x tree) tree {
	for range times {
		x = of(tag, n, x)
	}
	return x
}

// list is the node, and its kids with all below them.
func (x tree) list() []api.Node { return x.behind(nil) }

// behind are nodes, and those of the tree behind them.
func (x tree) behind(l []api.Node) []api.Node {
	l = append(l, x.node)
	for _, k := range x.kids {
		l = k.behind(l)
	}
	return l
}

// stored is an event, and how many units were taken by then.
type stored struct{ behind, n, at, value int }

// told is what a run must tell that has as much fuel as it takes, or 10000.
type told struct {
	kind, value, steps int
	stored             []stored
}

// with is the run that has so much fuel.
func (x told) with(fuel int) api.Run {
	r := api.Run{Out: api.Outcome{Kind: x.kind, Value: x.value}, Steps: x.steps}
	if fuel < x.steps {
		r.Out, r.Steps = api.Outcome{Kind: 4}, fuel
	}
	for _, s := range x.stored {
		if s.behind <= fuel {
			r.Events = append(r.Events, api.Event{Var: s.n, At: s.at, Value: s.value})
		}
	}
	return r
}

// walk runs a tree by the chapter's words. It goes down from kid to kid by calls, and ends by a panic of how.
type walk struct {
	told
	vars   []int
	arrays [][]int
}

// words are what a program whose body is a tree must tell, by the chapter's words.
func words(vars []int, x tree, args []int) (end told) {
	w := &walk{vars: make([]int, len(vars)), arrays: make([][]int, len(vars))}
	for i, t := range vars {
		if i < len(args) {
			w.vars[i] = args[i]
		}
		if t >= 2 {
			w.arrays[i] = make([]int, t-1)
		}
	}
	defer func() {
		o := recover().(api.Outcome)
		end = told{o.Kind, o.Value, w.steps, w.stored}
	}()
	w.enter(x)
	panic(api.Outcome{Kind: 3})
}

// enter is what a node tells, once it was entered.
func (w *walk) enter(x tree) int {
	if w.steps == 10000 {
		panic(api.Outcome{Kind: 4})
	}
	w.steps++
	n := x.node.N
	switch x.node.Tag {
	case 18:
		if w.enter(x.kids[0]) == 0 {
			return 0
		}
		return w.enter(x.kids[1])
	case 19:
		if w.enter(x.kids[0]) == 1 {
			return 1
		}
		return w.enter(x.kids[1])
	case 23:
		if w.enter(x.kids[0]) == 1 {
			return w.enter(x.kids[1])
		}
		return w.enter(x.kids[2])
	case 24:
		if w.enter(x.kids[0]) != 0 {
			w.enter(x.kids[1])
			w.enter(x)
		}
		return 0
	}
	var of []int
	for _, k := range x.kids {
		of = append(of, w.enter(k))
	}
	switch x.node.Tag {
	case 1, 2:
		return n
	case 3:
		return w.vars[n]
	case 4:
		return *w.place(n, of[0])
	case 21:
		w.vars[n] = of[0]
		w.stored = append(w.stored, stored{w.steps, n, -1, of[0]})
	case 22:
		*w.place(n, of[0]) = of[1]
		w.stored = append(w.stored, stored{w.steps, n, of[0], of[1]})
	case 25:
		panic(api.Outcome{Value: of[0]})
	case 20, 26:
	default:
		return reckoned(x.node.Tag, of)
	}
	return 0
}

// place is an array's place, if there is such a one.
func (w *walk) place(n, i int) *int {
	for j := range w.arrays[n] {
		if j == i {
			return &w.arrays[n][j]
		}
	}
	panic(api.Outcome{Kind: 2})
}

// reckoned is what comes of numbers by a tag, with numbers of any size that then go round.
func reckoned(tag int, of []int) int {
	x, y, z := big.NewInt(0), big.NewInt(int64(of[0])), new(big.Int)
	if len(of) > 1 {
		x, y = y, big.NewInt(int64(of[1]))
	}
	switch {
	case tag == 5 || tag == 8:
		return round(z.Sub(x, y))
	case tag == 6:
		return map[int]int{0: 1, 1: 0}[of[0]]
	case tag == 7:
		return round(z.Add(x, y))
	case tag == 9:
		return round(z.Mul(x, y))
	case y.Sign() == 0 && tag < 12:
		panic(api.Outcome{Kind: 1})
	case tag == 10:
		return round(z.Quo(x, y))
	case tag == 11:
		return round(z.Rem(x, y))
	}
	holds := map[int]string{12: "=", 13: "<>", 14: "<", 15: "<=", 16: ">", 17: ">="}[tag]
	for _, sign := range holds {
		if sign == []rune("<=>")[x.Cmp(y)+1] {
			return 1
		}
	}
	return 0
}

// round is the number from -2^63 to 2^63 - 1 that a number goes round to.
func round(n *big.Int) int {
	half := new(big.Int).Lsh(big.NewInt(1), 63)
	n.Add(n, half).Mod(n, new(big.Int).Lsh(half, 1))
	return int(n.Sub(n, half).Int64())
}

// mark stands in the room behind lists, and in lists that are spoiled.
const mark = -7777777

// roomy is a list with room behind it, full of another thing.
func roomy[T any](l []T, with T) []T {
	return slices.Concat(l, slices.Repeat([]T{with}, 4))[:len(l)]
}

// kept tells whether a roomy list, and the room behind it, are as they were.
func kept[T comparable](l, was []T, with T) bool {
	return slices.Equal(l, was) && slices.Equal(l[len(l):len(l)+4], slices.Repeat([]T{with}, 4))
}

// short is the beginning of a list: enough to be told.
func short[T any](l []T) []T { return l[:min(len(l), 40)] }

// alike tells whether runs are alike.
func alike(a, b api.Run) bool {
	return a.Out == b.Out && a.Steps == b.Steps && slices.Equal(a.Events, b.Events)
}

// ran holds Run, and Check, against what they must tell, told twice; and direct.Run, too, as both ways to run a program tell the same. Nothing that was given is changed, not even behind its end, and who changes one answer changes neither the other one nor what was given.
func ran(t *testing.T, p api.Program, args []int, fuel int, want api.Run, wrong api.Errno) {
	t.Helper()
	given, by := api.Program{Params: p.Params, Vars: roomy(p.Vars, mark), Body: roomy(p.Body, api.Node{Tag: mark})}, roomy(args, mark)
	if e := machine.Check(given, by, fuel); e != wrong {
		t.Fatalf("Check of %d, %v, %v with %v and %d: %v, not %v", p.Params, short(p.Vars), short(p.Body), short(args), fuel, e, wrong)
	}
	first, e := machine.Run(given, by, fuel)
	second, f := machine.Run(given, by, fuel)
	for _, r := range []api.Run{first, second} {
		if !alike(r, want) || e != wrong || f != wrong {
			t.Fatalf("Run of %d, %v, %v with %v and %d: %v %d %v of %d, %v, not %v %d %v of %d, %v", p.Params, short(p.Vars), short(p.Body), short(args), fuel,
				r.Out, r.Steps, short(r.Events), len(r.Events), e, want.Out, want.Steps, short(want.Events), len(want.Events), wrong)
		}
	}
	if r, e := direct.Run(given, by, fuel); !alike(r, want) || e != wrong {
		t.Fatalf("the other way, direct, tells of %d, %v, %v with %v and %d: %v %d %v of %d, %v", p.Params, short(p.Vars), short(p.Body), short(args), fuel,
			r.Out, r.Steps, short(r.Events), len(r.Events), e)
	}
	l := first.Events[:cap(first.Events)]
	for i := range l {
		l[i] = api.Event{Var: mark}
	}
	if !alike(second, want) {
		t.Fatalf("%v, once another answer was changed", short(second.Events))
	}
	if given.Params != p.Params || !kept(given.Vars, p.Vars, mark) || !kept(given.Body, p.Body, api.Node{Tag: mark}) || !kept(by, args, mark) {
		t.Fatalf("of %v, %v with %v is left: %v, %v, %v", short(p.Vars), short(p.Body), short(args), given.Vars, short(given.Body), by)
	}
}

// refused holds that a program is not run, but an error told.
func refused(t *testing.T, p api.Program, args []int, fuel int, e api.Errno) {
	t.Helper()
	ran(t, p, args, fuel, api.Run{}, e)
}

// through holds a program against what it must tell, at each fuel from none to what it takes, and at more. If it is out of fuel at 10000, at some of them.
func through(t *testing.T, p api.Program, args []int, want told) {
	t.Helper()
	step := 1 + want.steps/100
	for fuel := 0; fuel < want.steps; fuel += step {
		ran(t, p, args, fuel, want.with(fuel), api.OK)
	}
	for fuel := max(0, want.steps-2); fuel <= min(10000, want.steps+3); fuel++ {
		ran(t, p, args, fuel, want.with(fuel), api.OK)
	}
	for _, fuel := range []int{9999, 10000} {
		ran(t, p, args, fuel, want.with(fuel), api.OK)
	}
}

// variables are those of the programs that are told by hand: 0 and 1 are parameters, 2 and 6 truths, 3 an array of one number, 4 one of eight, and 5 a number. They are given the arguments 5 and -7.
func variables() []int { return []int{0, 0, 1, 2, 9, 0, 1} }

// hand is a program with these variables.
func hand(l ...tree) api.Program {
	return api.Program{Params: 2, Vars: variables(), Body: block(l...).list()}
}

// does holds a program of these statements against what it must tell, told by hand, and holds the chapter's words against it, too.
func does(t *testing.T, want told, l ...tree) {
	t.Helper()
	args := []int{5, -7}
	through(t, hand(l...), args, want)
	if w := words(variables(), block(l...), args); w.kind != want.kind || w.value != want.value || w.steps != want.steps || !slices.Equal(w.stored, want.stored) {
		t.Fatalf("the words of %v tell %v, not %v", block(l...).list(), w, want)
	}
}

// gives holds that a number is this, and that it takes so many units: if it is returned, if it is stored, and if it is put.
func gives(t *testing.T, x tree, value, steps int) {
	t.Helper()
	does(t, told{0, value, 2 + steps, nil}, back(x))
	does(t, told{0, value, 4 + steps, []stored{{2 + steps, 5, -1, value}}}, set(5, x), back(get(5)))
	does(t, told{3, 0, 3 + steps, []stored{{3 + steps, 4, 7, value}}}, put(4, num(7), x))
}

// holds holds that a truth is this, and that it takes so many units: if it is stored, and if it is asked.
func holds(t *testing.T, x tree, value, steps int) {
	t.Helper()
	does(t, told{3, 0, 2 + steps, []stored{{2 + steps, 2, -1, value}}}, set(2, x))
	does(t, told{0, 8 + value, 5 + steps, nil}, choice(x, block(back(num(9))), block(back(num(8)))))
}

// traps holds that a number ends the run so, behind so many units: wherever it stands.
func traps(t *testing.T, x tree, kind, steps int) {
	t.Helper()
	does(t, told{kind, 0, 2 + steps, nil}, back(x))
	does(t, told{kind, 0, 2 + steps, nil}, set(5, x), back(num(1)))
	does(t, told{kind, 0, 3 + steps, nil}, put(4, num(99), x), back(num(1)))
	does(t, told{kind, 0, 2 + steps, nil}, put(4, x, num(3)))
	does(t, told{kind, 0, 4 + steps, nil}, of(24, 0, of(12, 0, num(0), x), block()))
	does(t, told{kind, 0, 4 + steps, nil}, skip(), back(of(5, 0, x)))
}
