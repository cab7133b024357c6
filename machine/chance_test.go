package machine_test

import (
	"math/rand"
	"slices"
	"testing"

	"offshoot/api"
	"offshoot/kinds"
	"offshoot/machine"
)

// one is one of some things, by chance.
func one[T any](r *rand.Rand, l ...T) T { return l[r.Intn(len(l))] }

// number is a tree by chance whose kind is a number, of about so many nodes. Most numbers are small: so that they are places of arrays.
func number(r *rand.Rand, size int) tree {
	switch half := (size - 1) / 2; {
	case size < 2 && r.Intn(2) == 0:
		return get(one(r, 0, 1, 5))
	case size < 2 && r.Intn(12) == 0:
		return num(one(r, least, most, -1, least+1, int(r.Uint64())>>r.Intn(64)))
	case size < 2:
		return num(r.Intn(8))
	case size < 3 && r.Intn(3) == 0:
		return of(5, 0, number(r, size-1))
	case size < 3 || r.Intn(8) == 0:
		return at(one(r, 4, 4, 4, 3), place(r, size-1))
	default:
		return of(one(r, 7, 8, 9, 7, 8, 9, 7, 8, 10, 11), 0, number(r, half), number(r, size-1-half))
	}
}

// place is a number by chance that most arrays have as a place: it is no less than 0, and small.
func place(r *rand.Rand, size int) tree {
	switch r.Intn(12) {
	case 0:
		return number(r, size)
	case 1, 2, 3:
		return get(5)
	default:
		return num(r.Intn(2) * r.Intn(8))
	}
}

// condition is a tree by chance whose kind is a truth.
func condition(r *rand.Rand, size int) tree {
	switch half := (size - 1) / 2; {
	case size < 2 && r.Intn(2) == 0:
		return get(one(r, 2, 6))
	case size < 2:
		return truth(r.Intn(2))
	case size < 3 || r.Intn(8) == 0:
		return of(6, 0, condition(r, size-1))
	case r.Intn(2) == 0:
		return of(18+r.Intn(2), 0, condition(r, half), condition(r, size-1-half))
	default:
		return of(12+r.Intn(6), 0, number(r, half), number(r, size-1-half))
	}
}

// statement is a tree by chance whose kind is a statement.
func statement(r *rand.Rand, size int) tree {
	half, third := (size-1)/2, (size-1)/3
	if size < 4 {
		return one(r, skip(), set(one(r, 0, 1), number(r, size-1)), set(one(r, 0, 1, 5), number(r, size-1)), set(one(r, 2, 6), condition(r, size-1)), one(r, skip(), back(number(r, size-1))))
	}
	switch r.Intn(20) {
	case 0, 1:
		return put(one(r, 4, 4, 4, 3), place(r, half), number(r, size-1-half))
	case 2, 3:
		return choice(condition(r, third), grown(r, third), grown(r, third))
	case 4:
		return of(24, 0, condition(r, half), grown(r, size-1-half))
	case 5:
		return back(number(r, size-1))
	case 6, 7:
		return set(one(r, 2, 6), condition(r, size-1))
	case 8, 9:
		return set(one(r, 0, 1, 5), number(r, size-1))
	case 10:
		return grown(r, size)
	default:
		return block(count(1+r.Intn(6), grown(r, size-8).kids...)...)
	}
}

// grown is a Block by chance, of about so many nodes.
func grown(r *rand.Rand, size int) tree {
	var kids []tree
	for left := size - 1; left > 0 && len(kids) < 9; {
		n := 1 + r.Intn(left)
		kids = append(kids, statement(r, n))
		left -= n
	}
	return block(kids...)
}

// chance is a tree by chance that is a typed program's body, and two arguments.
func chance(r *rand.Rand, size int) (tree, []int) {
	for {
		x := grown(r, 1+r.Intn(size))
		if kinds.Of(hand(x), 0) == 2 {
			return x, []int{r.Intn(8), one(r, 0, 1, -1, 5, least, most, r.Int())}
		}
	}
}

// Programs by chance tell what the chapter's words do, at each fuel, or at some of them. There are many of each way to end, and of those that go on for long.
func TestWords(t *testing.T) {
	r := rand.New(rand.NewSource(1))
	ends, long, stores := map[int]int{}, 0, 0
	for range 1000 {
		x, args := chance(r, 120)
		want := words(variables(), x, args)
		p := api.Program{Params: 2, Vars: variables(), Body: x.list()}
		through(t, p, args, want)
		for range 4 {
			fuel := r.Intn(want.steps + 4)
			ran(t, p, args, min(fuel, 10000), want.with(fuel), api.OK)
		}
		ends[want.kind]++
		if want.steps > 150 && want.kind != 4 {
			long++
		}
		stores += min(len(want.stored), 50)
	}
	for kind := range 5 {
		if ends[kind] < 50 {
			t.Errorf("%d ended so: %d, of %v", ends[kind], kind, ends)
		}
	}
	if long < 50 || stores < 5000 {
		t.Errorf("%d were long, and %d values stored", long, stores)
	}
}

// With more fuel a run that ended otherwise is the same; one that was out of fuel goes on from there: it has taken all of it, and its events are the first ones of the run with more.
func TestMoreFuel(t *testing.T) {
	r := rand.New(rand.NewSource(2))
	tell := func(p api.Program, args []int, fuel int) api.Run {
		run, e := machine.Run(p, args, fuel)
		if e != api.OK || run.Steps > fuel || run.Out.Kind == 4 && run.Steps != fuel || run.Out.Kind != 0 && run.Out.Value != 0 {
			t.Fatalf("%v with %v and %d: %v %d %v", short(p.Body), args, fuel, run.Out, run.Steps, e)
		}
		return run
	}
	for range 400 {
		x, args := chance(r, 80)
		p := hand(x.kids...)
		last := tell(p, args, 0)
		if last.Out.Kind != 4 || len(last.Events) > 0 {
			t.Fatalf("%v without fuel: %v", short(p.Body), last)
		}
		for fuel := 1; fuel <= 10000; fuel += 1 + fuel/60*(1+r.Intn(8)) {
			next := tell(p, args, fuel)
			if last.Out.Kind != 4 && !alike(last, next) {
				t.Fatalf("%v with %v: %v, but with %d %v", short(p.Body), args, last, fuel, next)
			}
			if len(next.Events) < len(last.Events) || !slices.Equal(next.Events[:len(last.Events)], last.Events) {
				t.Fatalf("%v with %v: %v, but with %d %v", short(p.Body), args, short(last.Events), fuel, short(next.Events))
			}
			last = next
		}
	}
}

// What a program is changed into by chance is run by the words, too, or is no program: a node with another tag, or another number.
func TestChanged(t *testing.T) {
	r := rand.New(rand.NewSource(3))
	told := map[api.Errno]int{}
	for range 4000 {
		x, args := chance(r, 40)
		p := hand(x.kids...)
		i := r.Intn(len(p.Body))
		if r.Intn(2) == 0 {
			p.Body[i].Tag = r.Intn(28)
		} else {
			p.Body[i].N = r.Intn(14) - 1
		}
		y, rest := grow(p.Body)
		if rest != 0 || p.Body[0].Tag != 20 || kinds.Of(p, 0) != 2 {
			refused(t, p, args, 100, api.ErrProgram)
			told[api.ErrProgram]++
			continue
		}
		want := words(variables(), y, args)
		for _, fuel := range []int{0, want.steps / 2, max(0, want.steps-1), want.steps, 10000} {
			ran(t, p, args, fuel, want.with(fuel), api.OK)
		}
		told[api.OK]++
	}
	if told[api.OK] < 400 || told[api.ErrProgram] < 400 {
		t.Errorf("%v", told)
	}
}

// grow is the tree that nodes are, and how many nodes stand behind it: fewer than none, if some are missing, or may not be.
func grow(l []api.Node) (tree, int) {
	if len(l) == 0 {
		return tree{}, -1
	}
	x, rest := tree{node: l[0]}, len(l)-1
	kids, ok := map[int]int{1: 0, 2: 0, 3: 0, 4: 1, 5: 1, 6: 1, 20: x.node.N, 21: 1, 22: 2, 23: 3, 24: 2, 25: 1, 26: 0}[x.node.Tag]
	if x.node.Tag >= 7 && x.node.Tag <= 19 {
		kids, ok = 2, true
	}
	limit := map[int]int{1: most, 2: 1, 3: 11, 4: 11, 20: 200, 21: 11, 22: 11}[x.node.Tag]
	if !ok || x.node.Tag != 1 && (x.node.N < 0 || x.node.N > limit) {
		return tree{}, -1
	}
	for range kids {
		k, left := grow(l[len(l)-max(rest, 0):])
		if left < 0 {
			return tree{}, -1
		}
		x.kids, rest = append(x.kids, k), left
	}
	return x, rest
}
