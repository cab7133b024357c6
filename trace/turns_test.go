package trace_test

import (
	"math/rand"
	"sync"
	"testing"

	"offshoot/api"
	"offshoot/trace"
)

// Calls by turns, of several runs, tell what each tells alone.
func TestByTurns(t *testing.T) {
	r := rand.New(rand.NewSource(4))
	var all []api.Run
	var bytes []string
	for range 50 {
		x := anything(r)
		all, bytes = append(all, x), append(bytes, reckoned(x))
	}
	for range 5000 {
		i := r.Intn(len(all))
		switch r.Intn(3) {
		case 0:
			if s := trace.Bytes(all[i]); s != bytes[i] {
				t.Fatalf("%v: %x, not %x", all[i], s, bytes[i])
			}
		case 1:
			if d := trace.Digest(all[i]); d != digest(bytes[i]) {
				t.Fatalf("%v: %x, not %x", all[i], d, digest(bytes[i]))
			}
		default:
			all[i].Steps = number(r)
		}
	}
}

// What a run becomes when its owner changes it is what is told next: nothing is kept of it from call to call.
func TestNothingKept(t *testing.T) {
	r := ended(0, 3, set(1, -1, 5), set(2, 0, 6))
	first, told := trace.Bytes(r), trace.Digest(r)
	tells(t, r, "\x02\x02\x01\x0a\x04\x00\x0c\x00\x06")
	r.Events[0].Value = 7
	tells(t, r, "\x02\x02\x01\x0e\x04\x00\x0c\x00\x06")
	r.Events[1] = set(0, 0, 0)
	tells(t, r, "\x02\x02\x01\x0e\x00\x00\x00\x00\x06")
	r.Out.Kind = 4
	tells(t, r, "\x02\x02\x01\x0e\x00\x00\x00\x08\x06")
	r.Events = r.Events[:1]
	tells(t, r, "\x01\x02\x01\x0e\x08\x06")
	r.Events = append(r.Events, set(1, 1, 1))
	tells(t, r, "\x02\x02\x01\x0e\x02\x02\x02\x08\x06")
	if first != "\x02\x02\x01\x0a\x04\x00\x0c\x00\x06" || told != digest(first) {
		t.Errorf("%x, %x is left of the first one", first, told)
	}
}

// Calls at once, of one run and of several that share their events, tell what each tells alone.
func TestAtOnce(t *testing.T) {
	r := rand.New(rand.NewSource(5))
	x := anything(r)
	for len(x.Events) < 100 {
		x = anything(r)
	}
	var all sync.WaitGroup
	for i := range 32 {
		y := with(x, x.Events[:100-i%4])
		all.Go(func() {
			for range 20 {
				if want := reckoned(y); trace.Bytes(y) != want || trace.Digest(y) != digest(want) {
					t.Errorf("%d events are told otherwise", len(y.Events))
				}
			}
		})
	}
	all.Wait()
}

// A run of very many events ends, too.
func TestVeryMany(t *testing.T) {
	x := ended(0, 1, same(1<<20, set(0, -1, least))...)
	want := reckoned(x)
	if s := trace.Bytes(x); s != want || s[:4] != "\x80\x80\x40\x00" || len(s) != 3+12<<20+2 {
		t.Errorf("%d bytes, not %d", len(s), len(want))
	}
	if trace.Digest(x) != digest(want) {
		t.Error("another digest")
	}
}
