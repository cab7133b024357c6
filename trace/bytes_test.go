package trace_test

import (
	"math/rand"
	"strings"
	"testing"

	"offshoot/api"
	"offshoot/trace"
)

// The chapter's example.
func TestExample(t *testing.T) {
	r := api.Run{Out: api.Outcome{Kind: api.Done, Value: 3}}
	if s := trace.Bytes(r); s != string([]byte{0, 0, 6}) {
		t.Errorf("%x", s)
	}
	tells(t, r, "\x00\x00\x06")
}

// Of a run: how many events, of each its variable, its place and its value, then how it ended, and its value.
func TestBytes(t *testing.T) {
	tells(t, api.Run{}, "\x00\x00\x00")
	tells(t, ended(0, 1), "\x00\x00\x02")
	tells(t, ended(4, 0), "\x00\x08\x00")
	tells(t, ended(0, -1, set(0, -1, 0)), "\x01\x00\x01\x00\x00\x01")
	tells(t, ended(3, 0, set(2, 5, 9)), "\x01\x04\x0a\x12\x06\x00")
	tells(t, ended(0, -64, set(1, -1, 64), set(2, 7, 0)), "\x02\x02\x01\x80\x01\x04\x0e\x00\x00\x7f")
	tells(t, ended(0, -64, set(2, 7, 0), set(1, -1, 64)), "\x02\x04\x0e\x00\x02\x01\x80\x01\x00\x7f")
	tells(t, ended(2, 0, set(11, -1, -300), set(3, 0, 300), set(11, -1, 1)), "\x03\x16\x01\xd7\x04\x06\x00\xd8\x04\x16\x01\x02\x04\x00")
}

// Each number of an event, and of how the run ended, at each edge: the others are as they were.
func TestEdges(t *testing.T) {
	for _, x := range edges() {
		tells(t, ended(1, 9, set(x.n, 3, 4)), join("\x01", x.bytes, "\x06\x08\x02\x12"))
		tells(t, ended(1, 9, set(5, x.n, 4)), join("\x01\x0a", x.bytes, "\x08\x02\x12"))
		tells(t, ended(1, 9, set(5, 3, x.n)), join("\x01\x0a\x06", x.bytes, "\x02\x12"))
		tells(t, ended(x.n, 9, set(5, 3, 4)), join("\x01\x0a\x06\x08", x.bytes, "\x12"))
		tells(t, ended(1, x.n, set(5, 3, 4)), join("\x01\x0a\x06\x08\x02", x.bytes))
		tells(t, ended(x.n, 0), join("\x00", x.bytes, "\x00"))
		tells(t, ended(0, x.n), join("\x00\x00", x.bytes))
		for _, y := range edges() {
			tells(t, ended(y.n, x.n, set(x.n, y.n, x.n), set(y.n, y.n, x.n)), join("\x02", x.bytes, y.bytes, x.bytes, y.bytes, y.bytes, x.bytes, y.bytes, x.bytes))
		}
	}
}

// Each way that a run may end, with and without events, and ways that there are not: all of them are told as they are, with a value that such a run never has, too.
func TestKinds(t *testing.T) {
	for kind, bytes := range map[int]string{
		api.Done: "\x00", api.TrapDiv: "\x02", api.TrapIndex: "\x04", api.TrapEnd: "\x06", api.OutOfFuel: "\x08",
		5: "\x0a", 6: "\x0c", -1: "\x01", -4: "\x07", 100: "\xc8\x01", least: nines + "\x01", most: "\xfe" + nines[:8] + "\x01",
	} {
		for _, x := range edges() {
			tells(t, ended(kind, x.n), join("\x00", bytes, x.bytes))
			tells(t, ended(kind, x.n, set(0, -1, kind)), join("\x01\x00\x01", bytes, bytes, x.bytes))
		}
	}
}

// Events of variables and of places that there are not, and of as many as there may be.
func TestWrongEvents(t *testing.T) {
	for n := range 14 {
		for at := -1; at <= 8; at++ {
			where := string([]byte{byte(2 * n), byte(max(2*at, -1-2*at))})
			tells(t, ended(0, 1, set(n, at, -1)), join("\x01", where, "\x01\x00\x02"))
			tells(t, ended(0, 1, set(-1, -2, 0), set(n, at, -1), set(12, 8, 0)), join("\x03\x01\x03\x00", where, "\x01\x18\x10\x00\x00\x02"))
		}
	}
	tells(t, ended(-9, least, set(least, least, least), set(most, most, most)),
		join("\x02", strings.Repeat(nines+"\x01", 3), strings.Repeat("\xfe"+nines[:8]+"\x01", 3), "\x11", nines, "\x01"))
}

// How many events there are is told in as few bytes as may be.
func TestMany(t *testing.T) {
	for n, bytes := range map[int]string{
		0: "\x00", 1: "\x01", 2: "\x02", 63: "\x3f", 64: "\x40", 126: "\x7e", 127: "\x7f", 128: "\x80\x01", 129: "\x81\x01", 255: "\xff\x01", 256: "\x80\x02",
		300: "\xac\x02", 3333: "\x85\x1a", 9999: "\x8f\x4e", 10000: "\x90\x4e", 16383: "\xff\x7f", 16384: "\x80\x80\x01", 16385: "\x81\x80\x01",
	} {
		tells(t, ended(0, 5, same(n, set(1, -1, 2))...), join(bytes, strings.Repeat("\x02\x01\x04", n), "\x00\x0a"))
		tells(t, ended(4, 0, same(n, set(64, 3, -65))...), join(bytes, strings.Repeat("\x80\x01\x06\x81\x01", n), "\x08\x00"))
		tells(t, ended(4, 0, same(n, set(least, least, least))...), join(bytes, strings.Repeat(nines+"\x01", 3*n), "\x08\x00"))
	}
}

// Events are told in their order: as many as a run with all its fuel may have, and more, each of them another one.
func TestOrder(t *testing.T) {
	for _, n := range []int{3, 128, 3333, 10000, 20000} {
		r := ended(0, n)
		for i := range n {
			r.Events = append(r.Events, set(i%12, i%9-1, i*i-i*1000))
		}
		tells(t, r, reckoned(r))
	}
	three := []api.Event{set(1, 2, 3), set(4, 5, 6), set(7, 8, 9)}
	bytes := []string{"\x02\x04\x06", "\x08\x0a\x0c", "\x0e\x10\x12"}
	for _, l := range [][]int{{0, 1, 2}, {0, 2, 1}, {1, 0, 2}, {1, 2, 0}, {2, 0, 1}, {2, 1, 0}} {
		tells(t, ended(0, 0, three[l[0]], three[l[1]], three[l[2]]), join("\x03", bytes[l[0]], bytes[l[1]], bytes[l[2]], "\x00\x00"))
	}
}

// nil events and empty ones tell the same.
func TestNoEvents(t *testing.T) {
	for _, x := range edges() {
		none, empty := ended(x.n, x.n), ended(x.n, x.n)
		none.Events, empty.Events = nil, []api.Event{}
		hidden := ended(x.n, x.n, same(3, spoiled)...)
		hidden.Events = hidden.Events[:0]
		for _, r := range []api.Run{none, empty, hidden} {
			tells(t, r, join("\x00", x.bytes, x.bytes))
		}
	}
}

// Of runs by chance, and with a part of another run's events.
func TestChanceBytes(t *testing.T) {
	r := rand.New(rand.NewSource(1))
	for range 3000 {
		x := anything(r)
		tells(t, x, reckoned(x))
		if n := len(x.Events); n > 0 {
			from := r.Intn(n)
			x.Events = x.Events[from : from+r.Intn(n-from+1)]
			tells(t, x, reckoned(x))
		}
	}
}

// number is one by chance: of all lengths.
func number(r *rand.Rand) int { return int(r.Uint64()) >> r.Intn(64) }

// anything is a run by chance.
func anything(r *rand.Rand) api.Run {
	x := api.Run{Out: api.Outcome{Kind: number(r), Value: number(r)}, Steps: number(r)}
	for range r.Intn(1 << r.Intn(9)) {
		x.Events = append(x.Events, set(number(r), number(r), number(r)))
	}
	return x
}
