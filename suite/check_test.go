package suite_test

import (
	"math"
	"slices"
	"testing"

	"offshoot/api"
)

// outside are fuels that may not be.
func outside() []int {
	return []int{math.MinInt, math.MinInt + 1, -1 << 32, -10000, -1, 0, 10001, 1<<16 + 1, 1<<32 + 1, math.MaxInt - 1, math.MaxInt}
}

// strange are params that no test can have.
func strange() []int {
	return []int{math.MinInt, math.MinInt + 1, -1 << 32, -13, -1, 1 << 32, math.MaxInt - 1, math.MaxInt}
}

// places are those in a list of that length that are asked of: the first, the last, and some in between.
func places(n int) []int {
	l := []int{0, 1, n / 2, n - 2, n - 1}
	l = slices.DeleteFunc(l, func(at int) bool { return at < 0 || at >= n })
	slices.Sort(l)
	return slices.Compact(l)
}

// 1 to 20 tests with params numbers each, fuel from 1 to 10000, and what lies one beyond each limit, by the chapter's words.
func TestCheckGrid(t *testing.T) {
	fuels := []int{-1, 0, 1, 2, 5000, 9999, 10000, 10001}
	for n := range 24 {
		for wide := range 15 {
			tests := many(n, wide)
			for _, fuel := range fuels {
				for params := -1; params < 16; params++ {
					check(t, params, tests, fuel, wordsCheck(params, tests, fuel))
				}
			}
			switch {
			case n >= 1 && n <= 20:
				check(t, wide, tests, 1, api.OK)
				check(t, wide, tests, 10000, api.OK)
				check(t, wide, tests, 0, api.ErrFuel)
				check(t, wide, tests, 10001, api.ErrFuel)
			default:
				check(t, wide, tests, 1, api.ErrTests)
				check(t, wide, tests, 10000, api.ErrTests)
			}
		}
	}
}

// Each fuel that may be, and those that may not.
func TestCheckFuel(t *testing.T) {
	tests := many(2, 3)
	for fuel := 1; fuel <= 10000; fuel++ {
		check(t, 3, tests, fuel, api.OK)
	}
	for _, fuel := range outside() {
		check(t, 3, tests, fuel, api.ErrFuel)
		check(t, 0, [][]int{nil}, fuel, api.ErrFuel)
		check(t, 12, many(20, 12), fuel, api.ErrFuel)
	}
}

// No tests, and too many, however many numbers they have.
func TestCheckMany(t *testing.T) {
	for _, params := range append(strange(), 0, 1, 12, 13) {
		for _, fuel := range append(outside(), 1, 10000) {
			check(t, params, nil, fuel, api.ErrTests)
			check(t, params, [][]int{}, fuel, api.ErrTests)
		}
	}
	for _, n := range []int{21, 22, 40, 255, 256, 257, 276, 1 << 16, 1<<16 + 1, 1 << 20} {
		for _, wide := range []int{0, 1, 12} {
			tests := slices.Repeat([][]int{make([]int, wide)}, n)
			check(t, wide, tests, 1, api.ErrTests)
			check(t, wide, tests, 0, api.ErrTests)
			check(t, wide+1, tests, 10000, api.ErrTests)
		}
	}
}

// A number too few or too many, in the first test, the last one, and in between: ErrTests, ahead of ErrFuel.
func TestCheckOther(t *testing.T) {
	for _, n := range []int{1, 2, 3, 19, 20} {
		for wide := range 15 {
			tests := many(n, wide)
			for _, at := range places(n) {
				for _, other := range [][]int{make([]int, wide+1), make([]int, wide+256), nil, {}, make([]int, max(wide-1, 0))} {
					if len(other) == wide {
						continue
					}
					for _, fuel := range append(outside(), 1, 10000) {
						check(t, wide, with(tests, at, other), fuel, api.ErrTests)
					}
				}
			}
			check(t, wide, tests, 7, api.OK)
		}
	}
	check(t, 2, [][]int{{1}, {2, 3, 4}}, 1, api.ErrTests) // as many numbers in all as there should be
	check(t, 2, [][]int{{1, 2, 3}, {4}}, 1, api.ErrTests)
	check(t, 1, [][]int{{1, 2}, {3, 4}}, 1, api.ErrTests)
	check(t, 3, [][]int{{1, 2}, {3, 4}}, 1, api.ErrTests)
	check(t, 4, [][]int{{1, 2}, {3, 4}}, 1, api.ErrTests)
}

// Params below 0, and above all: ErrTests, ahead of ErrFuel.
func TestCheckParams(t *testing.T) {
	for _, params := range strange() {
		for _, fuel := range append(outside(), 1, 10000) {
			for _, tests := range [][][]int{{nil}, {{}}, {{}, nil}, {{1}}, many(1, 12), many(20, 0), many(20, 12), many(21, 13)} {
				check(t, params, tests, fuel, api.ErrTests)
			}
		}
	}
}

// How many numbers each test has is not asked, beyond that there are as many as params.
func TestCheckWide(t *testing.T) {
	for _, wide := range []int{12, 13, 14, 127, 128, 200, 255, 256, 1 << 16, 1 << 20} {
		tests := slices.Repeat([][]int{make([]int, wide)}, 3)
		check(t, wide, tests, 1, api.OK)
		check(t, wide, tests, 10000, api.OK)
		check(t, wide, tests, 10001, api.ErrFuel)
		check(t, wide-1, tests, 1, api.ErrTests)
		check(t, wide+1, tests, 1, api.ErrTests)
		check(t, wide%256+256, with(tests, 2, make([]int, wide%256)), 1, api.ErrTests)
		check(t, wide, with(tests, 2, make([]int, wide-1)), 0, api.ErrTests)
	}
}

// What the numbers are makes no difference.
func TestCheckNumbers(t *testing.T) {
	for _, n := range numbers() {
		check(t, 2, [][]int{{n, 0}, {1, n}}, 1, api.OK)
		check(t, 2, [][]int{{n, 0}, {1, n}}, 0, api.ErrFuel)
		check(t, 1, [][]int{{n, 0}, {1, n}}, 0, api.ErrTests)
	}
}

// Tests without numbers: nil ones and empty ones are alike.
func TestCheckNil(t *testing.T) {
	for n := range 23 {
		want := api.OK
		if n == 0 || n > 20 {
			want = api.ErrTests
		}
		check(t, 0, make([][]int, n), 1, want)
		check(t, 0, slices.Repeat([][]int{{}}, n), 1, want)
		if n > 1 {
			check(t, 0, with(make([][]int, n), n-1, []int{}), 1, want)
			check(t, 1, with(many(n, 1), n-1, nil), 1, api.ErrTests)
			check(t, 0, with(make([][]int, n), n-1, []int{0}), 1, api.ErrTests)
		}
	}
}
