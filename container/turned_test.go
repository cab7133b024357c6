package container_test

import (
	"math/rand"
	"strings"
	"testing"

	"offshoot/api"
	"offshoot/container"
)

// turn turns, in a text, the bits of a mask from a bit on: bits are counted from the first byte on, in each byte from the lowest one on.
func turn(s string, at int, mask uint64) string {
	b := []byte(s)
	for ; mask != 0; mask >>= 1 {
		if mask%2 == 1 {
			b[at/8] ^= 1 << (at % 8)
		}
		at++
	}
	return string(b)
}

// turned is a container, and where in it, counted in bits, one section's data begin and its tail ends.
type turned struct {
	s        string
	from, to int
}

// turnedOf are all sections of a list's container.
func turnedOf(t *testing.T, l []api.Section) []turned {
	s, e := container.Seal(l)
	if e != api.OK {
		t.Fatal(e)
	}
	var out []turned
	at := 7
	for _, x := range l {
		n := len(framed(x))
		out = append(out, turned{s: s, from: 8 * (at + n - len(x.Data) - 4), to: 8 * (at + n)})
		at += n
	}
	return out
}

// found holds Open against a container of which bits of one section's data and its tail are turned.
func (x turned) found(t *testing.T, at int, mask uint64) {
	t.Helper()
	refused(t, turn(x.s, at, mask), api.ErrFrame)
}

// kinds are lists whose containers have bits turned: no data, fewer bytes than a tail has, and more, first, in between and last.
func kinds() [][]api.Section {
	return [][]api.Section{
		{{Type: 1}}, {{Type: 255, Data: "\xff"}}, {{Type: 1, Data: "\x00"}, {Type: 2}, {Type: 3, Data: "abcd"}},
		{{Type: 1, Data: "offshoot"}, {Type: 2, Data: strings.Repeat("\x00", 9)}, {Type: 200, Data: strings.Repeat("\xff", 9)}},
		{{Type: 9, Data: strings.Repeat("z", 130)}, {Type: 10, Data: "END."}},
	}
}

// One bit turned, or two, up to 31 apart: in the data, across to the tail, and in it.
func TestOneAndTwoTurned(t *testing.T) {
	for _, l := range kinds() {
		for _, x := range turnedOf(t, l) {
			for at := x.from; at < x.to; at++ {
				x.found(t, at, 1)
				for far := 1; far < 32 && at+far < x.to; far++ {
					x.found(t, at, 1|1<<far)
				}
			}
		}
	}
}

// All ways to turn bits of which none stands more than 8 behind the first one.
func TestAllNearOnes(t *testing.T) {
	for _, x := range turnedOf(t, []api.Section{{Type: 1}, {Type: 2, Data: "ab"}}) {
		for at := x.from; at < x.to; at++ {
			for mask := uint64(1); mask < 1<<9 && mask>>(x.to-at) == 0; mask += 2 {
				x.found(t, at, mask)
			}
		}
	}
}

// The last one stands just 31 behind the first one: those two alone, all between too, and some of them.
func TestFarthest(t *testing.T) {
	r := rand.New(rand.NewSource(4))
	for _, l := range kinds() {
		for _, x := range turnedOf(t, l) {
			for at := x.from; at+31 < x.to; at++ {
				x.found(t, at, 1<<32-1)
				for range 10 {
					x.found(t, at, uint64(r.Uint32())|1|1<<31)
				}
			}
		}
	}
}

// Whatever the sections are, and wherever bits of one's data and of its tail are turned.
func TestTurnedByChance(t *testing.T) {
	r := rand.New(rand.NewSource(5))
	for range 5000 {
		l := some(r, 1+r.Intn(16), 60)
		xs := turnedOf(t, l)
		x := xs[r.Intn(len(xs))]
		far := r.Intn(32)
		x.found(t, x.from+r.Intn(x.to-x.from-far), uint64(r.Uint32())%(1<<far)|1|1<<far)
	}
}

// In a container of as many bytes as are let, too.
func TestTurnedInTheLongest(t *testing.T) {
	for _, x := range turnedOf(t, full(3, 1, api.MaxBytes)) {
		for _, at := range []int{x.from, x.from + 1, (x.from + x.to) / 2, x.to - 48, x.to - 32} {
			if at >= x.from && at+32 <= x.to {
				x.found(t, at, 1)
				x.found(t, at, 1<<32-1)
			}
		}
		x.found(t, x.to-1, 1)
	}
}

// Bits turned elsewhere are found out, too: a container has one form.
func TestTurnedElsewhere(t *testing.T) {
	for _, l := range kinds() {
		s, _ := container.Seal(l)
		for at := range 8 * len(s) {
			for far := 1; far < 32 && at+far < 8*len(s); far++ {
				x := turn(s, at, 1|1<<far)
				hold(t, x)
				if _, e := container.Open(x); e == api.OK {
					t.Fatalf("%x, with bits %d and %d turned, is opened", s, at, at+far)
				}
			}
		}
	}
}
