package direct_test

import (
	"math/rand"
	"slices"
	"sync"
	"testing"

	"offshoot/api"
	"offshoot/direct"
	"offshoot/machine"
)

// Calls by turns, of several programs, with other arguments and fuels, and of what is refused, tell what each tells alone.
func TestByTurns(t *testing.T) {
	all := samples()
	r := rand.New(rand.NewSource(5))
	for range 2000 {
		x, fuel := one(r, all...), r.Intn(200)
		p, args := hand(x.statements...), []int{x.a, x.b}
		switch r.Intn(6) {
		case 0:
			refused(t, p, args[:1], fuel, api.ErrTests)
		case 1:
			refused(t, p, args, 10001+fuel, api.ErrFuel)
		case 2:
			p.Params = 3
			refused(t, p, args, fuel, api.ErrProgram)
		case 3:
			if out := direct.Out(p, args, 10000); out != x.out {
				t.Fatalf("%s: %v, not %v", x.name, out, x.out)
			}
		default:
			agree(t, p, args, fuel)
		}
	}
}

// What a program, or its arguments, become when they are changed by their owner is what is told next: nothing is kept of them from call to call.
func TestNothingKept(t *testing.T) {
	p, args := hand("Put 4 Int 1 Var 0", "Set 0 Int 3", "Return Var 0"), []int{5, -7}
	first, _ := direct.Run(p, args, 10000)
	through(t, p, args, told{0, 3, 8, []stored{{4, 4, 1, 5}, {6, 0, -1, 3}}})
	args[0] = 6
	through(t, p, args, told{0, 3, 8, []stored{{4, 4, 1, 6}, {6, 0, -1, 3}}})
	p.Body[5].N = 4
	through(t, p, args, told{0, 4, 8, []stored{{4, 4, 1, 6}, {6, 0, -1, 4}}})
	p.Vars[4] = 2
	through(t, p, args, told{2, 0, 4, nil})
	p.Vars[4] = 0
	refused(t, p, args, 10000, api.ErrProgram)
	p.Vars[4], p.Body[7].N = 9, 1
	through(t, p, args, told{0, -7, 8, []stored{{4, 4, 1, 6}, {6, 0, -1, 4}}})
	if want := (told{0, 3, 8, []stored{{4, 4, 1, 5}, {6, 0, -1, 3}}}).by(10000); !alike(first, want) {
		t.Errorf("%v is left of the first one", first)
	}
}

// The variables of a program are each its own, and each run's: what one run stored is not there in the next one.
func TestOwnVariables(t *testing.T) {
	vars := []int{9, 9, 2, 0, 9, 5, 1, 9, 3, 9, 9, 9}
	for v, typ := range vars {
		if typ < 2 {
			continue
		}
		var l []string
		var all []stored
		for i := range typ - 1 {
			l = append(l, with(with("Put", v)+" Int", i)+with(" Int", 100+i))
			all = append(all, stored{4 + 3*i, v, i, 100 + i})
		}
		for other, size := range vars {
			for i := range max(size-1, 0) {
				want := told{0, 0, 1 + 3*len(l) + 3, all}
				if other == v {
					want.value = 100 + i
				}
				p := api.Program{Vars: vars, Body: nodes(block(append(slices.Clone(l), with("Return At", other)+with(" Int", i))...))}
				both(t, p, nil, 10000, want.by(10000), api.OK)
			}
		}
	}
	does(t, told{0, 7, 18, []stored{{12, 3, 0, 3}, {14, 2, -1, 1}, {16, 5, -1, 3}}},
		"If Or Var 2 Ne At 3 Int 0 Var 5 Block 1 Return Int 8 Block 3 Put 3 Int 0 Int 3 Set 2 Bool 1 Set 5 Int 3", "Return Int 7")
}

// Who appends to the events of an answer changes no other one's.
func TestAppended(t *testing.T) {
	for n := range 9 {
		p := hand(count(n, "Put 4 Sub Var 5 Int 1 Var 0")...)
		want, _ := machine.Run(p, arguments(), 10000)
		a, _ := direct.Run(p, arguments(), 10000)
		b, _ := direct.Run(p, arguments(), 10000)
		_ = append(a.Events, api.Event{Var: mark})
		_ = append(b.Events, api.Event{At: mark})
		ran(t, p, arguments(), 10000, want, api.OK)
		if !alike(a, want) || !alike(b, want) {
			t.Errorf("%v and %v, not %v", a, b, want)
		}
	}
}

// Calls at one time, with the same arguments, tell the same as one alone.
func TestAtOnce(t *testing.T) {
	var all sync.WaitGroup
	for _, x := range samples() {
		p, args := hand(x.statements...), []int{x.a, x.b}
		for n := range 3 {
			all.Go(func() {
				for fuel := n; fuel < 300; fuel += 3 {
					want, _ := machine.Run(p, args, fuel)
					if run, e := direct.Run(p, args, fuel); e != api.OK || !alike(run, want) || direct.Out(p, args, fuel) != want.Out {
						t.Errorf("%s with %d: %v %v", x.name, fuel, run, e)
					}
					if _, e := direct.Run(p, args[:1], fuel); e != api.ErrTests || direct.Out(p, args, 10000) != x.out {
						t.Errorf("%s: %v", x.name, e)
					}
				}
			})
		}
	}
	all.Wait()
}

// Lists that lie in one another's memory are told apart: arguments that stand in the variables', and nodes that stand in another program's.
func TestInOneMemory(t *testing.T) {
	memory := []int{0, 0, 3, 0, 0, 9}
	was := slices.Clone(memory)
	p := api.Program{Params: 2, Vars: memory[:3], Body: nodes("Block 4 Set 0 Int 5 Put 2 Int 1 Var 0 Set 1 At 2 Int 1 Return Add Var 0 Var 1")}
	for range 2 {
		run, e := direct.Run(p, memory[1:3], 10000)
		want := told{0, 10, 13, []stored{{3, 0, -1, 5}, {6, 2, 1, 5}, {9, 1, -1, 5}}}
		if e != api.OK || !alike(run, want.by(10000)) || !slices.Equal(memory, was) {
			t.Fatalf("%v %v, and %v is left", run, e, memory)
		}
	}
	whole := hand("Block 2 Set 5 Int 1 Return Var 5", "Set 5 Int 2", "Return Var 5")
	part := api.Program{Params: 2, Vars: variables(), Body: whole.Body[1:6]}
	for range 2 {
		both(t, part, arguments(), 9, told{0, 1, 5, []stored{{3, 5, -1, 1}}}.by(9), api.OK)
		both(t, whole, arguments(), 9, told{0, 1, 6, []stored{{4, 5, -1, 1}}}.by(9), api.OK)
	}
}
