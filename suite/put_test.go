package suite_test

import (
	"math"
	"math/rand"
	"slices"
	"strings"
	"testing"

	"offshoot/api"
)

// The chapter's example, and others whose bytes are written out by hand.
func TestByHand(t *testing.T) {
	ten := "\xff\xff\xff\xff\xff\xff\xff\xff\xff\x01"
	for _, x := range []struct {
		tests [][]int
		fuel  int
		s     string
	}{
		{[][]int{{3, -1}}, 5, "\x05\x01\x02\x06\x01"},
		{[][]int{nil}, 1, "\x01\x01\x00"},
		{[][]int{{}, nil, {}}, 2, "\x02\x03\x00"},
		{make([][]int, 20), 10000, "\x90\x4e\x14\x00"},
		{[][]int{{0}}, 127, "\x7f\x01\x01\x00"},
		{[][]int{{0}}, 128, "\x80\x01\x01\x01\x00"},
		{[][]int{{1}, {2}}, 9999, "\x8f\x4e\x02\x01\x02\x04"},
		{[][]int{{1, 2}}, 16, "\x10\x01\x02\x02\x04"},
		{[][]int{{1, 2}, {3, 4}, {5, 6}}, 16, "\x10\x03\x02\x02\x04\x06\x08\x0a\x0c"},
		{[][]int{{1, 2, 3}, {4, 5, 6}}, 16, "\x10\x02\x03\x02\x04\x06\x08\x0a\x0c"},
		{[][]int{{63, 64, -64, -65}}, 300, "\xac\x02\x01\x04\x7e\x80\x01\x7f\x81\x01"},
		{[][]int{{math.MaxInt}, {math.MinInt}}, 1, "\x01\x02\x01\xfe" + ten[1:] + ten},
		{[][]int{{0, 1, 2, 3, 4, 5, 6, 7, 8, 9, 10, 11}}, 1, "\x01\x01\x0c\x00\x02\x04\x06\x08\x0a\x0c\x0e\x10\x12\x14\x16"},
	} {
		both(t, x.tests, x.fuel, x.s)
	}
	both(t, slices.Repeat([][]int{slices.Repeat([]int{-1}, 12)}, 20), 129, "\x81\x01\x14\x0c"+strings.Repeat("\x01", 240))
}

// 1 to 20 tests with 0 to 12 numbers each, and what lies one beyond each limit, by the chapter's words.
func TestPutGrid(t *testing.T) {
	for n := range 24 {
		for wide := range 16 {
			for _, fuel := range []int{-1, 0, 1, 127, 128, 10000, 10001} {
				tests := many(n, wide)
				s, e := wordsPut(tests, fuel)
				put(t, tests, fuel, s, e)
				if e == api.OK {
					got(t, s, tests, fuel, e)
				}
				if ok := n >= 1 && n <= 20 && wide <= 12; (e == api.ErrTests) == ok || (e == api.ErrFuel) != (ok && (fuel < 1 || fuel > 10000)) {
					t.Fatalf("%d tests of %d numbers, fuel %d: %v", n, wide, fuel, e)
				}
			}
		}
	}
}

// Each fuel that may be.
func TestPutFuel(t *testing.T) {
	for fuel := 1; fuel <= 10000; fuel++ {
		may(t, [][]int{{fuel}, {-fuel}}, fuel)
	}
	for _, fuel := range outside() {
		put(t, [][]int{{1}, {2}}, fuel, "", api.ErrFuel)
		put(t, [][]int{nil}, fuel, "", api.ErrFuel)
		put(t, many(20, 12), fuel, "", api.ErrFuel)
	}
}

// Any number, at each place.
func TestPutNumbers(t *testing.T) {
	for _, n := range numbers() {
		may(t, [][]int{{n}}, 1)
		may(t, slices.Repeat([][]int{slices.Repeat([]int{n}, 12)}, 20), 10000)
		for _, i := range places(20) {
			for _, j := range places(12) {
				tests := many(20, 12)
				tests[i][j] = n
				may(t, tests, 77)
			}
		}
	}
}

// No tests, and too many: ErrTests, ahead of ErrFuel.
func TestPutMany(t *testing.T) {
	for _, fuel := range append(outside(), 1, 10000) {
		put(t, nil, fuel, "", api.ErrTests)
		put(t, [][]int{}, fuel, "", api.ErrTests)
		for _, n := range []int{21, 22, 127, 128, 255, 256, 257, 276, 1<<16 + 1} {
			put(t, make([][]int, n), fuel, "", api.ErrTests)
			put(t, slices.Repeat([][]int{make([]int, 12)}, n), fuel, "", api.ErrTests)
		}
	}
	put(t, make([][]int, 1<<20), 1, "", api.ErrTests)
}

// Too many numbers in each test: ErrTests, ahead of ErrFuel.
func TestPutWide(t *testing.T) {
	for _, wide := range []int{13, 14, 127, 128, 255, 256, 257, 268, 1<<16 + 1, 1 << 20} {
		test := make([]int, wide)
		for _, fuel := range []int{math.MinInt, -1, 0, 1, 10000, 10001, math.MaxInt} {
			for _, n := range []int{1, 2, 20, 21} {
				put(t, slices.Repeat([][]int{test}, n), fuel, "", api.ErrTests)
			}
		}
	}
}

// Tests that have not as many numbers as the first one, fewer or more, at each place: ErrTests, ahead of ErrFuel.
func TestPutOther(t *testing.T) {
	for _, n := range []int{2, 3, 20} {
		for wide := range 14 {
			for at := range n {
				for _, other := range []int{0, wide - 1, wide + 1, wide + 2, 12, 13, wide + 256, 1 << 16} {
					if other < 0 || other == wide {
						continue
					}
					for _, fuel := range []int{math.MinInt, 0, 1, 10000, 10001, math.MaxInt} {
						put(t, with(many(n, wide), at, make([]int, other)), fuel, "", api.ErrTests)
					}
				}
			}
		}
	}
	put(t, [][]int{nil, {1}}, 1, "", api.ErrTests)
	put(t, [][]int{{1}, nil}, 1, "", api.ErrTests)
	put(t, [][]int{{1, 2, 3}, {4}, {5, 6}}, 1, "", api.ErrTests) // as many in all as three times two
	put(t, [][]int{{1, 2}, {3}, {4, 5, 6}}, 1, "", api.ErrTests)
}

// Tests by chance are put, by the chapter's words, and got back, the same.
func TestBack(t *testing.T) {
	r := rand.New(rand.NewSource(1))
	for range 3000 {
		may(t, chance(r), 1+r.Intn(10000))
	}
}

// Any lists at all: ragged ones, too.
func TestPutAny(t *testing.T) {
	r := rand.New(rand.NewSource(2))
	wrong := map[api.Errno]int{}
	for range 20000 {
		tests := make([][]int, r.Intn(24))
		wide := r.Intn(15)
		for i := range tests {
			tests[i] = make([]int, wide)
			if r.Intn(40) == 0 {
				tests[i] = make([]int, r.Intn(15))
			}
			for j := range tests[i] {
				tests[i][j] = int(r.Uint64()) >> r.Intn(64)
			}
		}
		fuel := r.Intn(12000) - 1000
		s, e := wordsPut(tests, fuel)
		put(t, tests, fuel, s, e)
		check(t, wide, tests, fuel, wordsCheck(wide, tests, fuel))
		wrong[e]++
	}
	for _, e := range []api.Errno{api.OK, api.ErrTests, api.ErrFuel} {
		if wrong[e] < 500 {
			t.Errorf("%v is told %d times only", e, wrong[e])
		}
	}
}

// All small suites: unlike tests, or fuel, have unlike bytes, and each is got back.
func TestUnlike(t *testing.T) {
	seen := map[string]bool{}
	all := 0
	var down func(tests [][]int, left, wide int)
	down = func(tests [][]int, left, wide int) {
		if len(tests) > 0 {
			for _, fuel := range []int{1, 2, 3, 127, 128, 300} {
				s := written(tests, fuel)
				both(t, tests, fuel, s)
				seen[s] = true
				all++
			}
		}
		if left == 0 {
			return
		}
		for _, test := range rows(wide, []int{0, 1, -1, 64, 300}) {
			down(append(slices.Clone(tests), test), left-1, wide)
		}
	}
	down(nil, 3, 0)
	down(nil, 3, 1)
	down(nil, 2, 2)
	down(nil, 1, 3)
	down(nil, 1, 4)
	if len(seen) != all {
		t.Errorf("%d suites have %d texts", all, len(seen))
	}
}
