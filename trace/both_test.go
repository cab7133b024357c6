package trace_test

import (
	"math/rand"
	"strings"
	"testing"

	"offshoot/api"
	"offshoot/direct"
	"offshoot/kinds"
	"offshoot/machine"
	"offshoot/sites"
	"offshoot/trace"
)

// agree holds that both ways to run a program have the same bytes and the same digest, and tells the run, its bytes, and whether it was run.
func agree(t *testing.T, p api.Program, args []int, fuel int) (api.Run, string, api.Errno) {
	t.Helper()
	a, e := machine.Run(p, args, fuel)
	b, f := direct.Run(p, args, fuel)
	want := reckoned(a)
	if s, u := trace.Bytes(a), trace.Bytes(b); s != want || u != want || e != f {
		t.Fatalf("%v with %v and %d: %x and %x, not %x; %v and %v", p.Body, args, fuel, part(s, 20), part(u, 20), part(want, 20), e, f)
	}
	if s, u := trace.Digest(a), trace.Digest(b); s != digest(want) || u != s {
		t.Fatalf("%v with %v and %d: %x and %x, not %x", p.Body, args, fuel, s, u, digest(want))
	}
	return a, want, e
}

// at is a number of units, and the bytes from then on.
type at struct {
	fuel  int
	bytes string
}

// through holds both ways against bytes that are written down, at each fuel from 0 to beyond what the run takes.
func through(t *testing.T, p api.Program, args []int, l ...at) {
	t.Helper()
	for fuel := range l[len(l)-1].fuel + 5 {
		want := ""
		for _, x := range l {
			if fuel >= x.fuel {
				want = x.bytes
			}
		}
		if _, s, e := agree(t, p, args, fuel); s != want || e != api.OK {
			t.Fatalf("%v with %v and %d: %x, %v, not %x", p.Body, args, fuel, s, e, want)
		}
	}
	if _, s, _ := agree(t, p, args, 10000); s != l[len(l)-1].bytes {
		t.Fatalf("%v with %v: %x, not %x", p.Body, args, s, l[len(l)-1].bytes)
	}
}

// Programs by hand: each way that a run may end, at each fuel.
func TestByHand(t *testing.T) {
	out := at{0, "\x00\x08\x00"}
	p := api.Program{Params: 1, Vars: []int{0}, Body: nodes("Block 1 Return Add Var 0 Int 1")}
	through(t, p, []int{4}, out, at{5, "\x00\x00\x0a"})
	through(t, p, []int{-66}, out, at{5, "\x00\x00\x81\x01"})
	through(t, p, []int{most}, out, at{5, "\x00\x00" + nines + "\x01"})
	two := []int{5, -7}
	through(t, hand(), two, out, at{1, "\x00\x06\x00"})
	through(t, hand("Return Div Var 0 Int 0"), two, out, at{5, "\x00\x02\x00"})
	through(t, hand("Return Mod Var 0 Int 0"), two, out, at{5, "\x00\x02\x00"})
	through(t, hand("Return At 4 Int 8"), two, out, at{4, "\x00\x04\x00"})
	through(t, hand("Set 5 Int 3", "Put 4 Int 7 Int -65", "Return Var 5"), two,
		out, at{3, "\x01\x0a\x01\x06\x08\x00"}, at{6, "\x02\x0a\x01\x06\x08\x0e\x81\x01\x08\x00"}, at{8, "\x02\x0a\x01\x06\x08\x0e\x81\x01\x00\x06"})
	through(t, hand("Set 0 Var 1", "Set 2 Bool 1", "Put 3 Var 5 Var 0", "Put 3 Var 0 Int 1"), two,
		out, at{3, "\x01\x00\x01\x0d\x08\x00"}, at{5, "\x02\x00\x01\x0d\x04\x01\x02\x08\x00"},
		at{8, "\x03\x00\x01\x0d\x04\x01\x02\x06\x00\x0d\x08\x00"}, at{11, "\x03\x00\x01\x0d\x04\x01\x02\x06\x00\x0d\x04\x00"})
}

// A program that stores as often as its fuel lets it: the first time at the sixth unit, and then at each fifth one (While, Bool, Block, Set, Int).
func TestWithoutEnd(t *testing.T) {
	p := hand("While Bool 1 Block 1 Set 5 Int 1")
	for fuel := range 10001 {
		n := max(0, fuel-1) / 5
		bytes := string([]byte{byte(n)})
		if n > 127 {
			bytes = string([]byte{byte(n) | 128, byte(n >> 7)})
		}
		if run, s, _ := agree(t, p, []int{0, 0}, fuel); run.Steps != fuel || s != join(bytes, strings.Repeat("\x0a\x01\x02", n), "\x08\x00") {
			t.Fatalf("with %d: %d units, %d bytes", fuel, run.Steps, len(s))
		}
	}
}

// What may not be run has the bytes and the digest of no run.
func TestRefused(t *testing.T) {
	for _, p := range []api.Program{{}, hand("Return Bool 1"), {Params: 3, Vars: []int{0}, Body: nodes("Block 0")}} {
		if _, s, e := agree(t, p, []int{1, 2}, 10); s != "\x00\x00\x00" || e != api.ErrProgram {
			t.Errorf("%v: %x, %v", p, s, e)
		}
	}
	p := hand("Set 5 Int 3", "Return Int 1")
	for _, fuel := range []int{-1, 10001, least, most} {
		if _, s, e := agree(t, p, []int{1, 2}, fuel); s != "\x00\x00\x00" || e != api.ErrFuel {
			t.Errorf("with %d: %x, %v", fuel, s, e)
		}
	}
	if _, s, e := agree(t, p, []int{1}, 10); s != "\x00\x00\x00" || e != api.ErrTests {
		t.Errorf("%x, %v", s, e)
	}
}

// samples are programs that do something.
func samples() []api.Program {
	return []api.Program{
		hand("While Ne Var 1 Int 0 Block 3 Set 5 Mod Var 0 Var 1 Set 0 Var 1 Set 1 Var 5", "Return Var 0"),
		hand("While Gt Var 0 Int 1 Block 2 If Eq Mod Var 0 Int 2 Int 0 Block 1 Set 0 Div Var 0 Int 2 Block 1 Set 0 Add Mul Int 3 Var 0 Int 1 Set 5 Add Var 5 Int 1", "Return Var 5"),
		hand("Set 2 And Lt Var 0 Int 10 Or Eq Var 1 Int -7 Gt Div Int 100 Var 1 Int 3", "If Not Var 2 Block 1 Return Sub Int 3 Neg Var 0 Block 1 Put 3 Int 0 Neg Var 1", "Return At 3 Int 0"),
		hand("While Lt Var 5 Int 8 Block 2 Put 4 Var 5 Mod Mul Var 0 Add Var 5 Var 1 Int 11 Set 5 Add Var 5 Int 1", "Return At 4 Div Int 7 Var 1"),
		hand("If Le Var 0 Var 1 Block 1 Set 0 Add Var 0 Int 1 Block 2 Set 2 Bool 1 Put 4 Var 1 Neg Var 0", "Set 6 Not Or Var 2 Ge Var 0 Int 0", "Skip"),
	}
}

// fuels are each one from none to a bit more than so many units, and the most. If they are very many, there are gaps between the later ones.
func fuels(steps int) []int {
	l := []int{9999, 10000}
	for fuel := 0; fuel <= min(steps+3, 10000); fuel++ {
		if steps > 2000 && fuel > 300 && fuel < steps-1 {
			fuel = min(fuel+steps/20, steps-1)
		}
		l = append(l, fuel)
	}
	return l
}

// Programs that do something, at each fuel, and all their mutants: both ways tell the same, and a run of less fuel, or of a mutant, is told apart just where its events or its outcome are others.
func TestSamples(t *testing.T) {
	ends := map[int]int{}
	for _, p := range samples() {
		all, e := sites.All(p)
		if e != api.OK || kinds.Check(p) != api.OK || len(all) < 10 {
			t.Fatalf("%v: %v, %d mutants", p.Body, e, len(all))
		}
		for _, args := range [][]int{{5, 3}, {48, 36}, {0, 0}, {-1, 2}, {least, -1}} {
			run, _, _ := agree(t, p, args, 10000)
			for _, fuel := range fuels(run.Steps) {
				short, _, _ := agree(t, p, args, fuel)
				apart(t, run, short)
			}
			for _, d := range all {
				q, _ := sites.Mutant(p, d)
				mutant, _, e := agree(t, q, args, 10000)
				if e != api.OK {
					t.Fatalf("%v, %v: %v", p.Body, d, e)
				}
				apart(t, run, mutant)
				ends[mutant.Out.Kind]++
				for _, fuel := range fuels(mutant.Steps) {
					agree(t, q, args, fuel)
				}
			}
		}
	}
	for kind := range 5 {
		if ends[kind] < 3 {
			t.Errorf("%d ended so: %d", ends[kind], kind)
		}
	}
}

// Of programs by chance, at arguments by chance, both ways tell the same at each fuel; what they tell at two of them is alike just where events and outcome are.
func TestByChance(t *testing.T) {
	r := rand.New(rand.NewSource(6))
	ends, lengths := map[int]int{}, map[int]int{}
	for range 700 {
		p, args := chance(r), []int{argument(r), argument(r)}
		run, s, e := agree(t, p, args, 10000)
		if e != api.OK {
			t.Fatalf("%v: %v", p.Body, e)
		}
		last := run
		for _, fuel := range fuels(run.Steps) {
			next, _, _ := agree(t, p, args, fuel)
			apart(t, last, next)
			last = next
		}
		ends[run.Out.Kind]++
		lengths[min(len(s)/10, 7)]++
	}
	for kind := range 5 {
		if ends[kind] < 10 {
			t.Errorf("%d ended so: %d, of %v", ends[kind], kind, ends)
		}
	}
	if lengths[0] < 10 || lengths[1] < 10 || lengths[2] < 10 || lengths[7] < 10 {
		t.Errorf("so many bytes, by tens, they have: %v", lengths)
	}
}
