package machine_test

import (
	"math/rand"
	"slices"
	"sync"
	"testing"

	"offshoot/api"
	"offshoot/machine"
)

// Calls by turns, of several programs, with other arguments and fuels, and of what is refused, tell what each tells alone.
func TestByTurns(t *testing.T) {
	r := rand.New(rand.NewSource(4))
	for range 60 {
		var programs []api.Program
		var arguments [][]int
		var wants []told
		for range 3 {
			x, args := chance(r, 60)
			programs = append(programs, api.Program{Params: 2, Vars: variables(), Body: x.list()})
			arguments = append(arguments, args)
			wants = append(wants, words(variables(), x, args))
		}
		for range 20 {
			i, fuel := r.Intn(3), r.Intn(60)
			p, args, want := programs[i], arguments[i], wants[i]
			switch r.Intn(6) {
			case 0:
				refused(t, p, args[:1], fuel, api.ErrTests)
			case 1:
				refused(t, p, args, 10001+fuel, api.ErrFuel)
			case 2:
				p.Params = 3
				refused(t, p, args, fuel, api.ErrProgram)
			case 3:
				ran(t, p, args, 10000, want.with(10000), api.OK)
			default:
				ran(t, p, args, fuel, want.with(fuel), api.OK)
			}
		}
	}
}

// What a program, or its arguments, become when they are changed by their owner is what is told next: nothing is kept of them from call to call.
func TestNothingKept(t *testing.T) {
	p, args := hand(put(4, num(1), get(0)), set(0, num(3)), back(get(0))), []int{5, -7}
	first, _ := machine.Run(p, args, 10000)
	ran(t, p, args, 10000, told{0, 3, 8, []stored{{4, 4, 1, 5}, {6, 0, -1, 3}}}.with(10000), api.OK)
	args[0] = 6
	ran(t, p, args, 10000, told{0, 3, 8, []stored{{4, 4, 1, 6}, {6, 0, -1, 3}}}.with(10000), api.OK)
	p.Body[5].N = 4
	ran(t, p, args, 10000, told{0, 4, 8, []stored{{4, 4, 1, 6}, {6, 0, -1, 4}}}.with(10000), api.OK)
	p.Vars[4] = 2
	ran(t, p, args, 10000, told{2, 0, 4, nil}.with(10000), api.OK)
	p.Vars[4] = 0
	refused(t, p, args, 10000, api.ErrProgram)
	p.Vars[4], p.Body[7].N = 9, 1
	ran(t, p, args, 10000, told{0, -7, 8, []stored{{4, 4, 1, 6}, {6, 0, -1, 4}}}.with(10000), api.OK)
	if want := (told{0, 3, 8, []stored{{4, 4, 1, 5}, {6, 0, -1, 3}}}).with(10000); !alike(first, want) {
		t.Errorf("%v is left of the first one", first)
	}
}

// Who appends to the events of an answer changes no other one's.
func TestAppended(t *testing.T) {
	for n := range 20 {
		p := hand(count(n, put(4, num(2), get(5)))...)
		want := words(variables(), block(count(n, put(4, num(2), get(5)))...), []int{5, -7}).with(10000)
		a, _ := machine.Run(p, []int{5, -7}, 10000)
		b, _ := machine.Run(p, []int{5, -7}, 10000)
		_ = append(a.Events, api.Event{Var: mark})
		_ = append(b.Events, api.Event{At: mark})
		ran(t, p, []int{5, -7}, 10000, want, api.OK)
		if !alike(a, want) || !alike(b, want) {
			t.Errorf("%v and %v, not %v", a, b, want)
		}
	}
}

// Calls at one time, with the same arguments, tell the same as one alone.
func TestAtOnce(t *testing.T) {
	r := rand.New(rand.NewSource(5))
	var all sync.WaitGroup
	for range 4 {
		x, args := chance(r, 100)
		p, want := api.Program{Params: 2, Vars: variables(), Body: x.list()}, words(variables(), x, args)
		for n := range 4 {
			all.Add(1)
			go func() {
				defer all.Done()
				for i := range 100 {
					fuel := (n*100 + i*7) % 10000
					if run, e := machine.Run(p, args, fuel); e != api.OK || !alike(run, want.with(fuel)) {
						t.Errorf("%v with %d: %v %v", short(p.Body), fuel, run.Out, e)
					}
					if machine.Check(p, args, fuel) != api.OK || machine.Check(p, args[:1], fuel) != api.ErrTests {
						t.Errorf("%v", short(p.Body))
					}
				}
			}()
		}
	}
	all.Wait()
}

// Lists that lie in one another's memory are told apart: arguments that stand in the variables', and nodes that stand in another program's.
func TestInOneMemory(t *testing.T) {
	memory := []int{0, 0, 3, 0, 0, 9}
	was := slices.Clone(memory)
	p := api.Program{Params: 2, Vars: memory[:3], Body: block(set(0, num(5)), put(2, num(1), get(0)), set(1, at(2, num(1))), back(of(7, 0, get(0), get(1)))).list()}
	for range 2 {
		run, e := machine.Run(p, memory[1:3], 10000)
		want := told{0, 10, 13, []stored{{3, 0, -1, 5}, {6, 2, 1, 5}, {9, 1, -1, 5}}}
		if e != api.OK || !alike(run, want.with(10000)) || !slices.Equal(memory, was) {
			t.Fatalf("%v %v, and %v is left", run, e, memory)
		}
	}
	whole := hand(block(set(5, num(1)), back(get(5))), set(5, num(2)), back(get(5)))
	q := api.Program{Params: 2, Vars: variables(), Body: whole.Body[1:6]}
	for range 2 {
		ran(t, q, []int{5, -7}, 9, told{0, 1, 5, []stored{{3, 5, -1, 1}}}.with(9), api.OK)
		ran(t, whole, []int{5, -7}, 9, told{0, 1, 6, []stored{{4, 5, -1, 1}}}.with(9), api.OK)
	}
}
