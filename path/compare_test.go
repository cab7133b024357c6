package path_test

import (
	"math"
	"math/rand"
	"slices"
	"testing"

	"offshoot/path"
)

// stand is Compare by the chapter's words: the first place at which they are unlike decides; if there is none, the shorter one stands ahead.
func stand(a, b []int) int {
	for i := 0; i < len(a) && i < len(b); i++ {
		if a[i] < b[i] {
			return -1
		}
		if a[i] > b[i] {
			return 1
		}
	}
	return sign(len(a), len(b))
}

// compared holds Compare against what it must tell, either way round, told twice; neither path is changed.
func compared(t *testing.T, a, b []int, want int) {
	t.Helper()
	x, y := slices.Clone(a), slices.Clone(b)
	for range 2 {
		if c := path.Compare(a, b); c != want {
			t.Fatalf("Compare(%v, %v): %d, not %d", x, y, c, want)
		}
		if c := path.Compare(b, a); c != -want {
			t.Fatalf("Compare(%v, %v): %d, not %d", y, x, c, -want)
		}
	}
	if !slices.Equal(a, x) || !slices.Equal(b, y) {
		t.Fatalf("Compare(%v, %v) changed what it was given: %v, %v", x, y, a, b)
	}
}

func TestCompareByHand(t *testing.T) {
	least, greatest := math.MinInt, math.MaxInt
	for _, x := range []struct {
		a, b []int
		want int
	}{
		{nil, nil, 0}, {nil, []int{}, 0}, {[]int{}, []int{}, 0}, {[]int{0}, []int{0}, 0}, {[]int{3, 4}, []int{3, 4}, 0}, {[]int{least, greatest}, []int{least, greatest}, 0},
		{nil, []int{0}, -1}, {nil, []int{-1}, -1}, {nil, []int{least}, -1}, {[]int{}, []int{greatest, 0}, -1}, // empty, and the beginning of the other
		{[]int{1}, []int{1, 0}, -1}, {[]int{1}, []int{1, -1}, -1}, {[]int{1, 2}, []int{1, 2, least}, -1}, {[]int{0, 0}, []int{0, 0, 0, 0, 0}, -1},
		{[]int{0}, []int{1}, -1}, {[]int{0, 9}, []int{1}, -1}, {[]int{0, 9, 9}, []int{1, 0}, -1}, {[]int{0}, []int{1, 0}, -1}, // the first unlike place decides, not the length
		{[]int{2}, []int{10}, -1}, {[]int{1, 2}, []int{1, 10}, -1}, {[]int{1, 2, 5}, []int{1, 10, 4}, -1}, // as numbers, not as texts
		{[]int{-1}, []int{0}, -1}, {[]int{-2}, []int{-1}, -1}, {[]int{least}, []int{greatest}, -1}, {[]int{least}, []int{-1}, -1}, {[]int{0}, []int{greatest}, -1}, {[]int{least}, []int{1}, -1}, {[]int{-2}, []int{greatest}, -1}, // no less, told of a difference that goes round
		{[]int{1, least}, []int{1, greatest}, -1}, {[]int{5, 0}, []int{5, 1 << 32}, -1}, {[]int{1 << 32}, []int{1<<32 + 1}, -1}, {[]int{200}, []int{256}, -1},
	} {
		compared(t, x.a, x.b, x.want)
	}
}

// One order of all short paths: as the chapter's words have them, it is turned either way round, holds through a third one, and 0 is told just of alike ones.
func TestCompareShort(t *testing.T) {
	numbers := []int{math.MinInt, -1, 0, 1, 10, math.MaxInt}
	all := [][]int{nil}
	for i := 0; len(all[i]) < 3; i++ {
		for _, n := range numbers {
			all = append(all, slices.Concat(all[i], []int{n}))
		}
	}
	rand.New(rand.NewSource(6)).Shuffle(len(all), func(i, j int) { all[i], all[j] = all[j], all[i] })
	for i, a := range all {
		for j, b := range all {
			compared(t, a, b, stand(a, b))
			if c := path.Compare(a, b); (c == 0) != (i == j) {
				t.Fatalf("Compare(%v, %v): %d", a, b, c)
			}
		}
	}
	slices.SortFunc(all, path.Compare)
	for i, a := range all { // in one row, all of them: so what stands ahead of a third one stands ahead of those behind it
		for j, b := range all {
			compared(t, a, b, sign(i, j))
		}
	}
}

// Paths by chance, most of which begin alike.
func TestCompareAny(t *testing.T) {
	r := rand.New(rand.NewSource(7))
	for range 5000 {
		a := make([]int, r.Intn(12))
		for i := range a {
			a[i] = int(r.Uint64()) >> r.Intn(64)
		}
		b := slices.Clone(a[:r.Intn(len(a)+1)])
		for range r.Intn(4) {
			b = append(b, int(r.Uint64())>>r.Intn(64))
		}
		if len(b) > 0 && r.Intn(2) == 0 {
			b[r.Intn(len(b))] += r.Intn(3) - 1
		}
		compared(t, a, b, stand(a, b))
		compared(t, a, slices.Clone(a), 0)
	}
}

// Long paths: unlike at the last number alone, or not at all.
func TestCompareLong(t *testing.T) {
	a := make([]int, 1<<20)
	b := slices.Clone(a)
	compared(t, a, b, 0)
	compared(t, a, b[:len(b)-1], 1)
	b[len(b)-1] = 1
	compared(t, a, b, -1)
	b[0] = -1
	compared(t, a, b, 1)
}
