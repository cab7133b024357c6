package suite_test

import (
	"fmt"
	"math"
	"math/rand"
	"slices"
	"testing"

	"offshoot/suite"
)

// same holds Same against what it must tell, both ways around, of lists as they are and of ones with room behind; they stay as they were.
func same(t *testing.T, a, b [][]int, want bool) {
	t.Helper()
	x, y := roomy(a), roomy(b)
	for _, ok := range []bool{suite.Same(a, b), suite.Same(b, a), suite.Same(x, y), suite.Same(y, x), suite.Same(a, y), suite.Same(x, b)} {
		if ok != want {
			t.Fatalf("Same(%v, %v) of %d and %d tests: %v, not %v", short(a), short(b), len(a), len(b), ok, want)
		}
	}
	if !unchanged(x, a) || !unchanged(y, b) {
		t.Fatalf("Same(%v, %v): %v and %v are left", short(a), short(b), short(x), short(y))
	}
}

// All small lists, of tests with few numbers or none, as many or not: they are the same just if they are told alike.
func TestSameSmall(t *testing.T) {
	tests := slices.Concat([][]int{{}}, rows(1, []int{0, 1}), rows(2, []int{0, 1}))
	all := [][][]int{nil}
	for from := 0; len(all) < 400; {
		longer := all[from:]
		from = len(all)
		for _, l := range longer {
			for _, test := range tests {
				all = append(all, append(slices.Clone(l), test))
			}
		}
	}
	told := make([]string, len(all))
	for i, l := range all {
		told[i] = fmt.Sprint(l)
	}
	alike := 0
	for i, a := range all {
		for j, b := range all {
			same(t, a, b, told[i] == told[j])
			if told[i] == told[j] {
				alike++
			}
		}
	}
	if alike != 400 || len(all) != 400 {
		t.Errorf("%d of %d lists are alike", alike, len(all))
	}
}

// None, and tests without numbers: how many there are counts; nil ones and empty ones are alike.
func TestSameNone(t *testing.T) {
	same(t, nil, nil, true)
	same(t, nil, [][]int{}, true)
	same(t, [][]int{}, [][]int{}, true)
	for n := range 24 {
		for m := range 24 {
			same(t, make([][]int, n), make([][]int, m), n == m)
			same(t, make([][]int, n), slices.Repeat([][]int{{}}, m), n == m)
			same(t, make([][]int, n, 50), make([][]int, m), n == m)
		}
		if n > 0 {
			same(t, with(make([][]int, n), n-1, []int{}), make([][]int, n), true)
			same(t, with(make([][]int, n), n-1, []int{0}), make([][]int, n), false)
			same(t, with(make([][]int, n), 0, []int{0}), make([][]int, n), false)
		}
	}
}

// One number else, one test longer or shorter, one test more or fewer: at the first place, the last one, and in between.
func TestSameOther(t *testing.T) {
	for _, n := range []int{1, 2, 3, 20, 21} {
		for _, wide := range []int{1, 2, 12, 13, 100} {
			a := many(n, wide)
			same(t, a, many(n, wide), true)
			same(t, a, a, true)
			for _, i := range places(n) {
				for _, j := range places(wide) {
					for _, by := range []int{-1, 1, 256, 1 << 32, 1 << 53, math.MinInt} {
						test := slices.Clone(a[i])
						test[j] += by
						same(t, a, with(a, i, test), false)
					}
					same(t, a, with(a, i, slices.Delete(slices.Clone(a[i]), j, j+1)), false)
					same(t, a, with(a, i, slices.Insert(slices.Clone(a[i]), j, 0)), false)
				}
				same(t, a, with(a, i, append(slices.Clone(a[i]), 0)), false)
				same(t, a, with(a, i, nil), false)
				same(t, a, slices.Delete(slices.Clone(a), i, i+1), false)
				same(t, a, slices.Insert(slices.Clone(a), i, a[i]), false)
				same(t, a, slices.Insert(slices.Clone(a), i, nil), false)
			}
			same(t, a, append(slices.Clone(a), nil), false)
			same(t, a, nil, false)
		}
	}
}

// The numbers alone are not all: it counts in which test, and in which order, they stand.
func TestSameOrder(t *testing.T) {
	same(t, [][]int{{1, 2}}, [][]int{{2, 1}}, false)
	same(t, [][]int{{1, 2}}, [][]int{{1}, {2}}, false)
	same(t, [][]int{{1, 2}}, [][]int{{1, 2}, {}}, false)
	same(t, [][]int{{1, 2}, {}}, [][]int{{}, {1, 2}}, false)
	same(t, [][]int{{1, 2}, {3}}, [][]int{{1}, {2, 3}}, false)
	same(t, [][]int{{1, 2}, {3, 4}}, [][]int{{3, 4}, {1, 2}}, false)
	same(t, [][]int{{1, 2}, {3, 4}}, [][]int{{1, 3}, {2, 4}}, false)
	same(t, [][]int{{1, 1}, {1, 1}}, [][]int{{1, 1, 1, 1}}, false)
	same(t, [][]int{{12}}, [][]int{{1, 2}}, false)
	for _, n := range numbers() {
		same(t, [][]int{{0, n}}, [][]int{{0, n}}, true)
		same(t, [][]int{{0, n}}, [][]int{{0, n + 1}}, false)
		same(t, [][]int{{0}, {n}}, [][]int{{0}, {-n}}, n == -n)
	}
}

// Lists that share memory are told by what stands in them.
func TestSameShared(t *testing.T) {
	l := [][]int{{1, 2, 3}, {1, 2, 3}, {1, 2, 3}}
	same(t, l[:2], l[1:], true)
	same(t, l[:2], l, false)
	same(t, [][]int{l[0][:2]}, [][]int{l[0]}, false)
	same(t, [][]int{l[0][:2]}, [][]int{l[0][1:]}, false)
	same(t, [][]int{l[0], l[0]}, l[:2], true)
}

// Very long lists, and very many.
func TestSameLong(t *testing.T) {
	long := make([]int, 1<<20)
	other := slices.Clone(long)
	same(t, [][]int{long}, [][]int{other}, true)
	other[len(other)-1] = 1
	same(t, [][]int{long}, [][]int{other}, false)
	same(t, [][]int{long}, [][]int{long[1:]}, false)
	lots := make([][]int, 1<<18)
	same(t, lots, make([][]int, 1<<18), true)
	same(t, lots, lots[1:], false)
	same(t, lots, with(lots, len(lots)-1, []int{0}), false)
}

// Lists by chance, some of them changed in one place.
func TestSameChance(t *testing.T) {
	r := rand.New(rand.NewSource(6))
	for range 5000 {
		a, b := chance(r), chance(r)
		same(t, a, b, fmt.Sprint(a) == fmt.Sprint(b))
		c := roomy(a)
		same(t, a, c, true)
		if i := r.Intn(len(c)); len(c[i]) > 0 {
			c[i][r.Intn(len(c[i]))] ^= 1 << r.Intn(64)
			same(t, a, c, false)
		}
	}
}
