package direct_test

import (
	"testing"

	"offshoot/api"
)

// The chapter's example.
func TestExample(t *testing.T) {
	p := api.Program{Params: 1, Vars: []int{0}, Body: nodes("Block 1 Return Add Var 0 Int 1")}
	ran(t, p, []int{4}, 5, api.Run{Out: api.Outcome{Kind: api.Done, Value: 5}, Steps: 5}, api.OK)
	ran(t, p, []int{4}, 4, api.Run{Out: api.Outcome{Kind: api.OutOfFuel}, Steps: 4}, api.OK)
	through(t, p, []int{4}, told{0, 5, 5, nil})
	through(t, p, []int{most}, told{0, least, 5, nil})
}

// Int and Bool tell their number.
func TestConstants(t *testing.T) {
	for _, n := range []int{0, 1, -1, 2, 1000, least, least + 1, most - 1, most} {
		gives(t, with("Int", n), n, 1)
	}
	holds(t, "Bool 0", 0, 1)
	holds(t, "Bool 1", 1, 1)
}

// Var tells a parameter's argument; another variable is 0 at first. Each is its own.
func TestVar(t *testing.T) {
	gives(t, "Var 0", 5, 1)
	gives(t, "Var 1", -7, 1)
	gives(t, "Var 5", 0, 1)
	holds(t, "Var 2", 0, 1)
	holds(t, "Var 6", 0, 1)
	for i := range 12 {
		args := make([]int, 12)
		for j := range args {
			args[j] = 100 - j
		}
		for params := range 13 {
			want := told{0, 100 - i, 3, nil}
			if i >= params {
				want.value = 0
			}
			p := api.Program{Params: params, Vars: make([]int, 12), Body: nodes(with("Block 1 Return Var", i))}
			through(t, p, args[:params], want)
		}
	}
}

// At tells what an array has at a place: 0 at first. There is no place beside the first one and the last one.
func TestAt(t *testing.T) {
	for size := 1; size <= 8; size++ {
		for _, i := range []int{0, size - 1, size / 2, -1, size, size + 1, 8, least, least + 1, most - 1, most, -size, 1 << 32, -1 << 32} {
			want := told{2, 0, 4, nil}
			if i >= 0 && i < size {
				want.kind = 0
			}
			p := api.Program{Vars: []int{size + 1}, Body: nodes(with("Block 1 Return At 0 Int", i))}
			through(t, p, nil, want)
		}
	}
	gives(t, "At 3 Int 0", 0, 2)
	gives(t, "At 4 At 3 At 4 Var 0", 0, 4)
	for _, x := range []string{"Int 1", "Int -1", "Var 0", "Var 1", with("Int", least), with("Int", most)} {
		traps(t, "At 3 "+x, 2, 2)
	}
	traps(t, "At 4 Int 8", 2, 2)
	traps(t, "At 4 Int -1", 2, 2)
	traps(t, "Add Int 1 At 4 At 3 Int 1", 2, 5)
}

// Neg is 0 less the value, and Add, Sub and Mul are what they are called: they go round.
func TestNumbers(t *testing.T) {
	for _, x := range [][2]int{{0, 0}, {1, -1}, {-1, 1}, {9, -9}, {most, -most}, {-most, most}, {least, least}, {least + 2, most - 1}} {
		gives(t, with("Neg Int", x[0]), x[1], 2)
		gives(t, with("Neg Neg Int", x[0]), x[0], 3)
	}
	for _, x := range []struct {
		name        string
		a, b, value int
	}{
		{"Add", 3, 4, 7}, {"Add", 3, -4, -1}, {"Add", most, 1, least}, {"Add", least, -1, most}, {"Add", most, most, -2}, {"Add", least, least, 0}, {"Add", least, most, -1},
		{"Sub", 3, 4, -1}, {"Sub", -3, -4, 1}, {"Sub", least, 1, most}, {"Sub", most, -1, least}, {"Sub", 0, least, least}, {"Sub", most, least, -1},
		{"Mul", 3, 4, 12}, {"Mul", -3, 4, -12}, {"Mul", -3, -4, 12}, {"Mul", most, 2, -2}, {"Mul", least, -1, least}, {"Mul", least, 2, 0}, {"Mul", most, most, 1}, {"Mul", 1 << 32, 1 << 31, least}, {"Mul", 3037000500, 3037000500, -9223372036709301616},
	} {
		gives(t, with(with(x.name+" Int", x.a)+" Int", x.b), x.value, 3)
	}
	gives(t, "Sub Var 0 Var 1", 12, 3)
	gives(t, "Sub Sub Int 9 Int 4 Mul Int 2 Add Int 3 Var 1", 13, 9)
}

// Div is cut off towards 0, and Mod is what is left then. A second value of 0 ends the run.
func TestDivided(t *testing.T) {
	for _, x := range []struct{ a, b, quotient, rest int }{
		{7, 2, 3, 1}, {-7, 2, -3, -1}, {7, -2, -3, 1}, {-7, -2, 3, -1}, {6, 3, 2, 0}, {-6, 3, -2, 0}, {1, 2, 0, 1}, {-1, 2, 0, -1}, {0, 5, 0, 0}, {0, -5, 0, 0},
		{least, -1, least, 0}, {least, 1, least, 0}, {most, -1, -most, 0}, {least, least, 1, 0}, {least, most, -1, -1}, {most, least, 0, most}, {least, 2, -1 << 62, 0}, {least, 10, -922337203685477580, -8}, {-1, least, 0, -1},
	} {
		gives(t, with(with("Div Int", x.a)+" Int", x.b), x.quotient, 3)
		gives(t, with(with("Mod Int", x.a)+" Int", x.b), x.rest, 3)
	}
	for _, name := range []string{"Div", "Mod"} {
		for _, n := range []int{0, 1, -1, least, most} {
			traps(t, with(name+" Int", n)+" Int 0", 1, 3)
		}
		traps(t, name+" Var 0 Var 5", 1, 3)
		traps(t, name+" Int 1 Add Var 0 Int -5", 1, 5)
		gives(t, name+" Int 0 Int 1", 0, 3)
	}
}

// The six that compare, at each two of these numbers.
func TestCompare(t *testing.T) {
	l := []int{least, least + 1, -1, 0, 1, 2, most} // they rise
	for i, a := range l {
		for j, b := range l {
			for name, so := range map[string]bool{"Eq": i == j, "Ne": i != j, "Lt": i < j, "Le": i <= j, "Gt": i > j, "Ge": i >= j} {
				value := 0
				if so {
					value = 1
				}
				holds(t, with(with(name+" Int", a)+" Int", b), value, 3)
			}
		}
	}
	holds(t, "Lt Var 1 Var 0", 1, 3)
	holds(t, "Ge Sub Int 1 Int 2 Sub Int 2 Int 1", 0, 7)
}

// Not is 1 less the value. And and Or enter their second kid only if the first one has not told it all: else no unit is taken there, and no trap is met.
func TestTruths(t *testing.T) {
	for _, x := range []struct {
		x            string
		value, steps int
	}{
		{"Not Bool 0", 1, 2}, {"Not Bool 1", 0, 2}, {"Not Not Bool 1", 1, 3}, {"Not Var 2", 1, 2}, {"Not Lt Int 1 Int 2", 0, 4},
		{"And Bool 0 Bool 0", 0, 2}, {"And Bool 0 Bool 1", 0, 2}, {"And Bool 1 Bool 0", 0, 3}, {"And Bool 1 Bool 1", 1, 3},
		{"Or Bool 0 Bool 0", 0, 3}, {"Or Bool 0 Bool 1", 1, 3}, {"Or Bool 1 Bool 0", 1, 2}, {"Or Bool 1 Bool 1", 1, 2},
		{"And Bool 0 Eq Int 1 Div Int 1 Int 0", 0, 2}, {"Or Bool 1 Eq Int 1 At 3 Int 1", 1, 2}, {"And Var 2 Eq Int 1 At 3 Int 1", 0, 2}, {"Or Not Var 2 Eq Int 1 Mod Int 1 Int 0", 1, 3},
		{"And And Bool 0 Bool 1 Bool 1", 0, 3}, {"And And Bool 1 Bool 0 Bool 1", 0, 4}, {"And And Bool 1 Bool 1 And Bool 1 Bool 0", 0, 7}, {"Or Or Bool 0 Bool 0 Or Bool 0 Bool 1", 1, 7}, {"Or Or Bool 1 Bool 0 Bool 0", 1, 3},
		{"Or And Bool 0 Bool 1 Bool 1", 1, 4}, {"And Or Bool 1 Bool 0 Bool 0", 0, 4}, {"Or And Bool 1 Bool 0 And Bool 0 Bool 1", 0, 6}, {"And Lt Int 1 Int 2 Not Not Bool 1", 1, 7},
	} {
		holds(t, x.x, x.value, x.steps)
	}
	does(t, told{1, 0, 9, nil}, "Set 2 And Bool 1 Eq Int 1 Div Int 1 Int 0")
	does(t, told{2, 0, 8, nil}, "Set 2 Or Bool 0 Eq Int 1 At 3 Int 1")
	does(t, told{1, 0, 8, nil}, "Set 2 And Eq Int 1 Div Int 1 Int 0 Bool 0")
	does(t, told{1, 0, 8, nil}, "Set 2 Or Eq Int 1 Div Int 1 Int 0 Bool 1")
}

// The traps of a node come behind its kids: who has trapped before, or was out of fuel, is told.
func TestTrapsBehindKids(t *testing.T) {
	const div, index = "Mod Int 1 Int 0", "At 4 Int 8" // three units, and two
	for _, name := range []string{"Div ", "Mod "} {
		traps(t, name+index+" Int 0", 2, 3)
		traps(t, name+div+" Int 0", 1, 4)
		traps(t, name+"Int 1 "+index, 2, 4)
		traps(t, name+index+" "+div, 2, 3)
		traps(t, name+div+" "+index, 1, 4)
		traps(t, name+"Int 0 "+name+"Int 0 Int 0", 1, 5)
	}
	for _, place := range []int{8, -1, least, most} {
		at := with("Int", place)
		does(t, told{2, 0, 4, nil}, "Put 4 "+at+" Int 1", "Return Int 1")
		does(t, told{1, 0, 6, nil}, "Put 4 "+at+" "+div, "Return Int 1")
		does(t, told{2, 0, 5, nil}, "Put 4 "+at+" "+index)
		does(t, told{1, 0, 5, nil}, "Put 4 "+div+" "+at)
	}
	does(t, told{2, 0, 4, nil}, "Put 4 "+index+" "+div)
	does(t, told{1, 0, 5, nil}, "Put 4 "+div+" "+index)
	traps(t, "At 4 "+div, 1, 4)
	for _, name := range []string{"Add ", "Sub ", "Mul "} {
		traps(t, name+div+" "+index, 1, 4)
		traps(t, name+index+" "+div, 2, 3)
		traps(t, name+"Int 1 "+div, 1, 5)
	}
	for _, name := range []string{"Eq ", "Ne ", "Lt ", "Le ", "Gt ", "Ge "} {
		does(t, told{1, 0, 6, nil}, "Set 2 "+name+div+" "+index)
		does(t, told{2, 0, 5, nil}, "Set 6 "+name+index+" "+div)
	}
}

// Both kids of a node are entered from the left to the right, and each tells its own value.
func TestLeftToRight(t *testing.T) {
	for i, name := range []string{"Add", "Sub", "Mul", "Div", "Mod"} {
		gives(t, name+" Var 0 Var 1", []int{-2, 12, -35, 0, 5}[i], 3)
		gives(t, name+" Var 1 Var 0", []int{-2, -12, -35, -1, -2}[i], 3)
	}
	for i := range 8 {
		does(t, told{0, []int{3, 0, 0, 6, 0, 0, 1, 0}[i] - 12, 19, []stored{{4, 4, 0, 3}, {7, 4, 3, 6}, {10, 4, 6, 1}}},
			"Put 4 Int 0 Int 3", "Put 4 Int 3 Int 6", "Put 4 Int 6 Int 1", "Return Sub At 4 "+with("Int", i)+" Mul Int 2 At 4 At 4 Int 0")
	}
}
