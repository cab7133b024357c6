package delta_test

import (
	"math"
	"math/rand"
	"slices"
	"testing"

	"offshoot/api"
	"offshoot/delta"
)

// Deltas whose bytes are written out by hand.
func TestBytesByHand(t *testing.T) {
	for _, x := range []struct {
		d api.Delta
		s string
	}{
		{api.Delta{Op: 1}, "\x00\x01\x00"},
		{api.Delta{Path: []int{}, Op: 5}, "\x00\x05\x00"},
		{api.Delta{Path: []int{0}, Op: 6}, "\x01\x00\x06\x00"},
		{api.Delta{Path: []int{0, 1, 0, 1}, Op: 1, N: 11}, "\x04\x00\x01\x00\x01\x01\x16"},
		{api.Delta{Path: []int{127}, Op: 2, N: 17}, "\x01\x7f\x02\x22"},
		{api.Delta{Path: []int{128}, Op: 3, N: 19}, "\x01\x80\x01\x03\x26"},
		{api.Delta{Path: []int{199, 0}, Op: 4, N: -1}, "\x02\xc7\x01\x00\x04\x01"},
		{api.Delta{Op: 7, N: 63}, "\x00\x07\x7e"},
		{api.Delta{Op: 7, N: -64}, "\x00\x07\x7f"},
		{api.Delta{Op: 7, N: 64}, "\x00\x07\x80\x01"},
		{api.Delta{Op: 7, N: -65}, "\x00\x07\x81\x01"},
		{api.Delta{Op: 4, N: math.MaxInt}, "\x00\x04\xfe\xff\xff\xff\xff\xff\xff\xff\xff\x01"},
		{api.Delta{Op: 4, N: math.MinInt}, "\x00\x04\xff\xff\xff\xff\xff\xff\xff\xff\xff\x01"},
		{api.Delta{Path: make([]int, 30), Op: 1, N: 7}, "\x1e" + full("\x00", 30) + "\x01\x0e"},
		{api.Delta{Path: slices.Repeat([]int{199}, 30), Op: 1, N: 7}, "\x1e" + full("\xc7\x01", 30) + "\x01\x0e"},
	} {
		both(t, x.d, x.s)
	}
	if s, e := delta.Put(api.Delta{Op: 1}); s != "\x00\x01\x00" || e != api.OK { // of a nil path
		t.Errorf("%x %v", s, e)
	}
}

// Each operator with each number of a path, and paths of none to 30 numbers; any N, those at which one byte more is wanted among them: all are put, and got back.
func TestBack(t *testing.T) {
	for op := 1; op <= 7; op++ {
		for n := range 200 {
			for _, path := range [][]int{{n}, {n, 0}, {0, n}, {199, n, 128}} {
				d := api.Delta{Path: path, Op: op, N: n - 100}
				both(t, d, written(d))
			}
		}
		for length := range 31 {
			for _, n := range []int{0, 1, 127, 128, 199} {
				d := api.Delta{Path: slices.Repeat([]int{n}, length), Op: op, N: -length}
				both(t, d, written(d))
			}
		}
		for _, n := range ints() {
			for _, path := range [][]int{nil, {0}, {7, 199}} {
				d := api.Delta{Path: path, Op: op, N: n}
				both(t, d, written(d))
			}
		}
	}
	r := rand.New(rand.NewSource(11))
	for range 5000 {
		d := anyDelta(r)
		both(t, d, written(d))
	}
}

// Whether there is a place that may be changed so is not asked: what Put writes is the delta alone.
func TestPutOfAnyNumber(t *testing.T) {
	for op := 1; op <= 7; op++ {
		for _, n := range numbers() {
			d := api.Delta{Path: []int{3, 1}, Op: op, N: n}
			both(t, d, written(d))
		}
	}
}

// Unlike deltas have unlike bytes: each text stands for one delta alone.
func TestUnlike(t *testing.T) {
	of := map[string]api.Delta{}
	hold := func(d api.Delta) {
		t.Helper()
		s, e := delta.Put(d)
		if other, ok := of[s]; e != api.OK || ok && !delta.Same(d, other) {
			t.Fatalf("%v and %v: %x %v", d, other, s, e)
		}
		of[s] = d
	}
	numbers := []int{0, 1, 2, 7, 127, 128, 129, 199}
	paths := [][]int{nil}
	for i := 0; len(paths[i]) < 3; i++ {
		for _, n := range numbers {
			paths = append(paths, slices.Concat(paths[i], []int{n}))
		}
	}
	for _, path := range paths {
		for op := 1; op <= 7; op++ {
			for _, n := range []int{0, 1, -1, 2, 7, -7, 63, 64, -64, -65, math.MinInt, math.MaxInt} {
				hold(api.Delta{Path: path, Op: op, N: n})
			}
		}
	}
	if want := (1 + 8 + 64 + 512) * 7 * 12; len(of) != want {
		t.Errorf("%d texts, not %d", len(of), want)
	}
	r := rand.New(rand.NewSource(12))
	for range 20000 {
		hold(anyDelta(r))
	}
}

// A delta that is changed in one number has other bytes, if it has any.
func TestNeighbours(t *testing.T) {
	for _, d := range samples() {
		s, _ := delta.Put(d)
		other := func() {
			t.Helper()
			switch u, e := delta.Put(d); {
			case mayBe(d) && (e != api.OK || u == s):
				t.Fatalf("%v: %x %v", d, u, e)
			case !mayBe(d) && (e != api.ErrDelta || u != ""):
				t.Fatalf("%v: %x %v, and it may not be", d, u, e)
			}
		}
		for _, by := range []int{-1, 1, 2, 64, 128, 1 << 8, 1 << 32, math.MinInt} {
			d.Op += by
			other()
			d.Op -= by
			d.N += by
			other()
			d.N -= by
			for i := range d.Path {
				d.Path[i] += by
				other()
				d.Path[i] -= by
			}
		}
		own := d.Path
		d.Path = slices.Concat(own, []int{0})
		other()
		if len(own) > 0 {
			d.Path = own[:len(own)-1]
			other()
		}
		d.Path = own
		put(t, d, s, api.OK)
	}
}

// Paths of 31 numbers and more: no bytes, whatever else there is.
func TestPutLong(t *testing.T) {
	for _, length := range []int{31, 32, 60, 128, 199, 200, 256, 257, 286, 1 << 16, 1<<20 + 30} {
		for _, op := range []int{0, 1, 4, 7, 8} {
			for _, n := range []int{0, 1, 199, 200, -1} {
				put(t, api.Delta{Path: slices.Repeat([]int{n}, length), Op: op}, "", api.ErrDelta)
			}
		}
	}
}

// Numbers that no path may have, at each place of a path.
func TestPutPathWrong(t *testing.T) {
	for _, n := range strange() {
		for _, length := range []int{1, 2, 3, 30} {
			for i := range length {
				d := api.Delta{Path: slices.Repeat([]int{5}, length), Op: 4, N: 1}
				both(t, d, written(d))
				d.Path[i] = n
				put(t, d, "", api.ErrDelta)
			}
		}
	}
}

// Operators that there are not: no bytes, with any path and any number.
func TestPutOpWrong(t *testing.T) {
	for _, op := range noOps() {
		for _, path := range [][]int{nil, {}, {0}, {199, 0}, make([]int, 30)} {
			for _, n := range numbers() {
				put(t, api.Delta{Path: path, Op: op, N: n}, "", api.ErrDelta)
			}
		}
	}
}

// Any deltas at all: what may be is put, and nothing else.
func TestPutAny(t *testing.T) {
	r := rand.New(rand.NewSource(13))
	let := 0
	for range 20000 {
		d := api.Delta{Path: make([]int, r.Intn(40)>>r.Intn(4)), Op: r.Intn(10), N: int(r.Uint64()) >> r.Intn(64)}
		for i := range d.Path {
			d.Path[i] = int(r.Uint64()) >> (50 + r.Intn(14))
			if r.Intn(5) > 0 {
				d.Path[i] = r.Intn(200)
			}
		}
		if mayBe(d) {
			let++
			both(t, d, written(d))
		} else {
			put(t, d, "", api.ErrDelta)
		}
	}
	if let < 3000 {
		t.Errorf("%d were let only", let)
	}
}
