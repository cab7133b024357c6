package direct_test

import (
	"math/rand"
	"slices"
	"testing"

	"offshoot/api"
	"offshoot/arena"
	"offshoot/direct"
	"offshoot/kinds"
	"offshoot/machine"
	"offshoot/sites"
)

// agree holds that both ways to run a program tell the same, and tells it.
func agree(t *testing.T, p api.Program, args []int, fuel int) (api.Run, api.Errno) {
	t.Helper()
	want, wrong := machine.Run(p, args, fuel)
	r, e := direct.Run(p, args, fuel)
	if out := direct.Out(p, args, fuel); !alike(r, want) || e != wrong || out != want.Out {
		t.Fatalf("%d, %v, %v with %v and %d: %v %d %v of %d, %v, and %v, but the machine tells %v %d %v of %d, %v", p.Params, p.Vars, short(p.Body), args, fuel,
			r.Out, r.Steps, short(r.Events), len(r.Events), e, out, want.Out, want.Steps, short(want.Events), len(want.Events), wrong)
	}
	return want, wrong
}

// A sample is a program that does something, by its statements: what it tells, if it is given two numbers.
type sample struct {
	name       string
	statements []string
	a, b       int
	out        api.Outcome
}

// samples are programs that use all tags.
func samples() []sample {
	done := func(n int) api.Outcome { return api.Outcome{Value: n} }
	return []sample{
		{"the greatest divisor of both", []string{"While Ne Var 1 Int 0 Block 3 Set 5 Mod Var 0 Var 1 Set 0 Var 1 Set 1 Var 5", "Return Var 0"}, 48, 36, done(12)},
		{"how often it is halved, or taken three times", []string{
			"While Gt Var 0 Int 1 Block 2 If Eq Mod Var 0 Int 2 Int 0 Block 1 Set 0 Div Var 0 Int 2 Block 1 Set 0 Add Mul Int 3 Var 0 Int 1 Set 5 Add Var 5 Int 1",
			"Return Var 5"}, 6, 0, done(8)},
		{"a power", []string{"Set 5 Int 1", "While Gt Var 1 Int 0 Block 3 If Ne Mod Var 1 Int 2 Int 0 Block 1 Set 5 Mul Var 5 Var 0 Block 0 Set 0 Mul Var 0 Var 0 Set 1 Div Var 1 Int 2", "Return Var 5"}, -3, 5, done(-243)},
		{"truths", []string{
			"Set 2 And Lt Var 0 Int 10 Or Eq Var 1 Int -7 Gt Div Int 100 Var 1 Int 3", "Set 6 Or Var 2 Not And Ge Var 0 Int 0 Le Var 1 Int 0",
			"If Not Var 6 Block 1 Return Sub Int 3 Neg Var 0 Block 2 Skip If And Var 2 Bool 1 Block 1 Put 3 Int 0 Neg Var 1 Block 0",
			"Return At 3 Int 0"}, 5, -7, done(7)},
		{"where a number stands, if it does", []string{"Put 4 Int 3 Int 9", "Put 4 Int 6 Var 1", "While Bool 1 Block 2 If Eq At 4 Var 5 Var 0 Block 1 Return Var 5 Block 1 Skip Set 5 Add Var 5 Int 1"}, 4, 4, done(6)},
		{"no return", []string{"If Le Var 0 Var 1 Block 1 Set 0 Add Var 0 Int 1 Block 2 Set 2 Bool 1 Put 4 Var 1 Neg Var 0", "Block 0"}, 5, 3, api.Outcome{Kind: 3}},
		{"the greatest of eight, in order", []string{
			"While Lt Var 5 Int 8 Block 2 Put 4 Var 5 Mod Mul Var 0 Add Var 5 Var 1 Int 11 Set 5 Add Var 5 Int 1", "Set 2 Bool 1",
			"While Var 2 Block 3 Set 2 Bool 0 Set 5 Int 0 While Lt Var 5 Int 7 Block 2 " +
				"If Gt At 4 Var 5 At 4 Add Var 5 Int 1 Block 4 Put 3 Int 0 At 4 Var 5 Put 4 Var 5 At 4 Add Var 5 Int 1 Put 4 Add Var 5 Int 1 At 3 Int 0 Set 2 Bool 1 Block 0 Set 5 Add Var 5 Int 1",
			"Return At 4 Int 7"}, 7, 3, done(10)},
	}
}

// Programs that do something tell what they do, and both ways the same at each fuel.
func TestSamples(t *testing.T) {
	used := map[int]bool{}
	for _, x := range samples() {
		p := hand(x.statements...)
		if e := kinds.Check(p); e != api.OK {
			t.Fatalf("%s: %v", x.name, e)
		}
		if out := direct.Out(p, []int{x.a, x.b}, 10000); out != x.out {
			t.Errorf("%s of %d and %d: %v, not %v", x.name, x.a, x.b, out, x.out)
		}
		for _, node := range p.Body {
			used[node.Tag] = true
		}
		for _, args := range [][]int{{x.a, x.b}, {0, 0}, {1, 1}, {-1, 2}, {least, -1}, {most, most}, {27, 64}} {
			run, _ := agree(t, p, args, 10000)
			for fuel := 0; fuel <= min(run.Steps+3, 10000); fuel++ {
				agree(t, p, args, fuel)
			}
		}
	}
	if len(used) != 26 {
		t.Errorf("only these tags are in them: %v", used)
	}
}

// Of each mutant of a program both ways tell the same, at each fuel.
func TestMutants(t *testing.T) {
	ends := map[int]int{}
	for _, x := range samples() {
		p := hand(x.statements...)
		all, _ := sites.All(p)
		for _, d := range all {
			q, e := sites.Mutant(p, d)
			if e != api.OK {
				t.Fatalf("%s, %v: %v", x.name, d, e)
			}
			args := []int{x.a, x.b}
			run, e := agree(t, q, args, 10000)
			if e != api.OK {
				t.Fatalf("%s, %v: %v", x.name, d, e)
			}
			for _, fuel := range fuels(run.Steps) {
				agree(t, q, args, fuel)
			}
			ends[run.Out.Kind]++
			agree(t, q, []int{x.b, -x.a}, 10000)
		}
	}
	for kind := range 5 {
		if ends[kind] < 3 {
			t.Errorf("%d ended so: %d", ends[kind], kind)
		}
	}
}

// Of mutants of mutants, by chance, at arguments and fuels by chance, both ways tell the same.
func TestMutantsOfMutants(t *testing.T) {
	r := rand.New(rand.NewSource(1))
	for range 400 {
		p := hand(one(r, samples()...).statements...)
		for range 1 + r.Intn(5) {
			all, e := sites.All(p)
			if e != api.OK || len(all) == 0 { // one that is too deep, or has nothing left
				break
			}
			p, _ = sites.Mutant(p, one(r, all...))
			args := []int{value(r), value(r)}
			run, _ := agree(t, p, args, 10000)
			for range 5 {
				agree(t, p, args, r.Intn(run.Steps+2))
			}
		}
	}
}

// A condition that is turned, with its branches changed about, does the same for one unit of fuel more.
func TestTurned(t *testing.T) {
	all := samples()
	for i, x := range all {
		yes, no := block(x.statements...), block(all[(i+1)%len(all)].statements...)
		for _, c := range []string{"Bool 1", "Bool 0", "Var 2", "Not Var 2", "Lt Var 0 Var 1", "And Le Var 0 Var 1 Bool 1", "Or Ge Var 1 Var 0 Eq Int 1 Div Int 1 Var 0", "Eq At 4 Var 0 Int 0"} {
			p, q := hand("If "+c+" "+yes+" "+no), hand("If Not "+c+" "+no+" "+yes)
			for _, args := range [][]int{{x.a, x.b}, {x.b, x.a}, {0, 0}} {
				run, _ := agree(t, p, args, 9999)
				for _, fuel := range fuels(run.Steps) {
					want, _ := direct.Run(p, args, min(fuel, 9999))
					want.Steps++
					ran(t, q, args, min(fuel, 9999)+1, want, api.OK)
				}
			}
		}
	}
	for n := range 8 { // each time that it is entered
		for _, c := range []string{"Bool 1", "Eq Var 5 Int 3", "Not Lt Var 5 Int 3"} {
			const yes, no = " Block 1 Set 0 Var 5", " Block 1 Put 4 Var 5 Int 1"
			want, _ := direct.Run(hand(count(n, "If "+c+yes+no)...), arguments(), 10000)
			if want.Out.Kind != 3 || len(want.Events) != 1+2*n {
				t.Fatalf("%d turns with %s: %v", n, c, want)
			}
			want.Steps += n
			ran(t, hand(count(n, "If Not "+c+no+yes)...), arguments(), 10000, want, api.OK)
		}
	}
}

// A variable more, that is not used, makes no difference.
func TestSpareVariable(t *testing.T) {
	for _, x := range samples() {
		p, args := hand(x.statements...), []int{x.a, x.b}
		run, _ := agree(t, p, args, 10000)
		for typ := range 10 {
			for n := 1; n <= 5; n += 2 {
				q := p
				q.Vars = append(variables(), slices.Repeat([]int{typ}, n)...)
				for _, fuel := range []int{0, 1, run.Steps / 2, run.Steps - 1, run.Steps, 10000} {
					want, _ := direct.Run(p, args, fuel)
					ran(t, q, args, fuel, want, api.OK)
				}
			}
			q := p
			q.Vars = append(variables(), slices.Repeat([]int{typ}, 6)...)
			refused(t, q, args, 10000, api.ErrProgram)
		}
	}
}

// With more fuel a run that ended otherwise is the same; one that was out of fuel goes on from there.
func TestMoreFuel(t *testing.T) {
	r := rand.New(rand.NewSource(2))
	for range 300 {
		p, args := chance(r), []int{value(r), value(r)}
		last, _ := direct.Run(p, args, 0)
		for fuel := 1; fuel <= 10000; fuel += 1 + fuel/60*(1+r.Intn(8)) {
			next, e := direct.Run(p, args, fuel)
			switch {
			case e != api.OK || next.Steps > fuel || next.Out.Kind == 4 && next.Steps != fuel || next.Out.Kind != 0 && next.Out.Value != 0:
				t.Fatalf("%v with %v and %d: %v %d %v", short(p.Body), args, fuel, next.Out, next.Steps, e)
			case last.Out.Kind != 4 && !alike(last, next):
				t.Fatalf("%v with %v: %v, but with %d %v", short(p.Body), args, last, fuel, next)
			case len(next.Events) < len(last.Events) || !slices.Equal(next.Events[:len(last.Events)], last.Events):
				t.Fatalf("%v with %v: %v, but with %d %v", short(p.Body), args, short(last.Events), fuel, short(next.Events))
			}
			last = next
		}
	}
}

// Of programs by chance, at arguments by chance, both ways tell the same at each fuel.
func TestChance(t *testing.T) {
	r := rand.New(rand.NewSource(3))
	ends := map[int]int{}
	for range 700 {
		p, args := chance(r), []int{value(r), value(r)}
		run, e := agree(t, p, args, 10000)
		if e != api.OK {
			t.Fatalf("%v: %v", p.Body, e)
		}
		for _, fuel := range fuels(run.Steps) {
			agree(t, p, args, fuel)
		}
		ends[run.Out.Kind]++
	}
	for kind := range 5 {
		if ends[kind] < 30 {
			t.Errorf("%d ended so: %d, of %v", ends[kind], kind, ends)
		}
	}
}

// Of programs changed by chance both ways tell the same run, or the same error.
func TestChanged(t *testing.T) {
	r := rand.New(rand.NewSource(4))
	told := map[api.Errno]int{}
	for range 6000 {
		p, args, fuel := chance(r), []int{value(r), value(r)}, r.Intn(200)
		switch i := r.Intn(len(p.Body)); r.Intn(12) {
		case 0:
			p.Body = arena.Replace(p.Body, i, arena.Part(p.Body, r.Intn(len(p.Body))))
		case 1:
			p.Body = slices.Delete(p.Body, i, i+1)
		case 2:
			p.Vars[r.Intn(len(p.Vars))] = r.Intn(12) - 1
		case 3:
			p.Params = r.Intn(5) - 1
		case 4:
			args = args[:r.Intn(2)]
		case 5:
			fuel = one(r, -1, 10001, least, most, 10000)
		case 6, 7, 8:
			p.Body[i].N = r.Intn(14) - 1
		default:
			p.Body[i].Tag = one(r, r.Intn(28), p.Body[i].Tag^1)
		}
		_, e := agree(t, p, args, fuel)
		told[e]++
	}
	for _, e := range []api.Errno{api.OK, api.ErrProgram, api.ErrTests, api.ErrFuel} {
		if told[e] < 200 {
			t.Errorf("%v: %d", e, told[e])
		}
	}
}
