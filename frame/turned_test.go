package frame_test

import (
	"math/rand"
	"strings"
	"testing"

	"offshoot/api"
	"offshoot/frame"
)

// turn turns, in a text, the bits of a mask from a bit on: bits are counted from the first byte on, in each byte from the lowest one on.
func turn(s string, at int, mask uint64) string {
	b := []byte(s)
	for ; mask != 0; mask >>= 1 {
		if mask%2 == 1 {
			b[at/8] ^= 1 << (at % 8)
		}
		at++
	}
	return string(b)
}

// found holds Get against a frame of which bits of the data and the tail are turned: told must be that the sum is wrong, whatever stands around.
func found(t *testing.T, x api.Section, at int, mask uint64) {
	t.Helper()
	s, _ := frame.Put(x)
	s = turn(s, 8*len(frame.Head(x))+at, mask)
	refused(t, s, 0, api.ErrSum)
	refused(t, "ab"+s+"\x00", 2, api.ErrSum)
}

// turned are sections whose frames have bits turned: no data, fewer bytes than a tail has, and more.
func turned() []api.Section {
	return []api.Section{
		{}, {Type: 255}, {Type: 1, Data: "\x00"}, {Type: 2, Data: "\xff"}, {Type: 3, Data: "ab"}, {Type: 4, Data: "abcd"},
		{Type: 128, Data: "offshoot"}, {Type: 5, Data: strings.Repeat("\x00", 9)}, {Type: 6, Data: strings.Repeat("\xff", 9)},
		{Type: 9, Data: strings.Repeat("z", 130)},
	}
}

// bits is how many bits a section's data and its tail have.
func bits(x api.Section) int { return 8 * (len(x.Data) + 4) }

// One bit turned, or two, up to 31 apart: in the data, across to the tail, and in it.
func TestOneAndTwoTurned(t *testing.T) {
	for _, x := range turned() {
		for at := range bits(x) {
			found(t, x, at, 1)
			for far := 1; far < 32 && at+far < bits(x); far++ {
				found(t, x, at, 1|1<<far)
			}
		}
	}
}

// All ways to turn bits of which none stands more than 8 behind the first one.
func TestAllNearOnes(t *testing.T) {
	for _, x := range []api.Section{{}, {Type: 3, Data: "ab"}} {
		for at := range bits(x) {
			for mask := uint64(1); mask < 1<<9 && mask>>(bits(x)-at) == 0; mask += 2 {
				found(t, x, at, mask)
			}
		}
	}
}

// The last one stands just 31 behind the first one: those two alone, all between too, and some of them.
func TestFarthest(t *testing.T) {
	r := rand.New(rand.NewSource(4))
	for _, x := range turned() {
		for at := range bits(x) - 31 {
			found(t, x, at, 1<<32-1)
			for range 30 {
				found(t, x, at, uint64(r.Uint32())|1|1<<31)
			}
		}
	}
}

// Whatever the data are, and wherever bits of it and of the tail are turned.
func TestTurnedByChance(t *testing.T) {
	r := rand.New(rand.NewSource(5))
	for range 10000 {
		x := api.Section{Type: r.Intn(256), Data: text(r, r.Intn(300))}
		far := r.Intn(32)
		mask := uint64(r.Uint32())%(1<<far) | 1 | 1<<far
		found(t, x, r.Intn(bits(x)-far), mask)
	}
}

// In a frame of as many bytes as are let, too.
func TestTurnedInTheLongest(t *testing.T) {
	x := api.Section{Type: 1, Data: strings.Repeat("m", api.MaxBytes)}
	for _, at := range []int{0, 1, bits(x) / 2, bits(x) - 48, bits(x) - 32} {
		found(t, x, at, 1)
		found(t, x, at, 1<<32-1)
	}
	found(t, x, bits(x)-1, 1)
}
