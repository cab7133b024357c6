package delta_test

import (
	"math"
	"math/rand"
	"slices"
	"strings"
	"testing"

	"offshoot/api"
	"offshoot/delta"
)

// num are the bytes of a number without a sign, by chapter 1's words.
func num(n uint64) string {
	var b []byte
	for ; n >= 128; n /= 128 {
		b = append(b, byte(n%128)+128)
	}
	return string(append(b, byte(n)))
}

// signed are the bytes of a number with a sign, by chapter 2's words.
func signed(n int) string {
	if n < 0 {
		return num(2*uint64(-(n+1)) + 1)
	}
	return num(2 * uint64(n))
}

// written are a delta's bytes by the chapter's words, whether it may be or not.
func written(d api.Delta) string {
	s := num(uint64(len(d.Path)))
	for _, n := range d.Path {
		s += num(uint64(n))
	}
	return s + string([]byte{byte(d.Op)}) + signed(d.N)
}

// mayBe tells whether a delta has bytes, by the chapter's words.
func mayBe(d api.Delta) bool {
	for _, n := range d.Path {
		if n < 0 || n > 199 {
			return false
		}
	}
	return len(d.Path) <= 30 && d.Op >= 1 && d.Op <= 7
}

// scan goes through bytes from the left, by the chapters' words. Once something can't be so, ok is false.
type scan struct {
	s  string
	ok bool
}

// byte is the byte that comes next.
func (c *scan) byte() byte {
	if c.ok = c.ok && c.s != ""; !c.ok {
		return 0
	}
	b := c.s[0]
	c.s = c.s[1:]
	return b
}

// num is the number without a sign that comes next: in as few groups as can be, and none above 64 bits.
func (c *scan) num() uint64 {
	var n uint64
	for i := 0; c.ok; i++ {
		b := c.byte()
		n += uint64(b%128) << (7 * i)
		if b < 128 {
			c.ok = c.ok && (i == 0 || b > 0) && (i < 9 || i == 9 && b == 1)
			return n
		}
	}
	return 0
}

// delta is the delta that comes next, if all of its numbers may be, and nothing is behind.
func (c *scan) delta() api.Delta {
	var d api.Delta
	count := c.num()
	c.ok = c.ok && count <= 30
	for i := uint64(0); c.ok && i < count; i++ {
		d.Path = append(d.Path, int(c.num()))
	}
	d.Op = int(c.byte())
	z := c.num()
	d.N = int(z / 2)
	if z%2 == 1 {
		d.N = -d.N - 1
	}
	c.ok = c.ok && mayBe(d) && c.s == ""
	return d
}

// put holds Put against what it must tell, told twice; the delta stays as it was.
func put(t *testing.T, d api.Delta, want string, e api.Errno) {
	t.Helper()
	given := api.Delta{Path: roomy(d.Path, 77), Op: d.Op, N: d.N}
	for range 2 {
		if s, f := delta.Put(given); s != want || f != e {
			t.Fatalf("Put(%v): %x %v, not %x %v", d, s, f, want, e)
		}
	}
	if !kept(given.Path, d.Path, 77) || given.Op != d.Op || given.N != d.N {
		t.Fatalf("Put changed %v: %v", d, given)
	}
}

// got holds Get against what it must tell, told twice; who changes one answer changes no other one.
func got(t *testing.T, s string, want api.Delta, e api.Errno) {
	t.Helper()
	first, f := delta.Get(s)
	second, g := delta.Get(s)
	if f != e || g != e || !equal(first, want) || !equal(second, want) {
		t.Fatalf("Get(%x): %v %v, and %v %v, not %v %v", s, first, f, second, g, want, e)
	}
	spoil(first.Path, -99)
	if !equal(second, want) {
		t.Fatalf("Get(%x): %v, once another answer was changed", s, second)
	}
}

// equal tells whether deltas are alike, number by number.
func equal(a, b api.Delta) bool {
	return slices.Equal(a.Path, b.Path) && a.Op == b.Op && a.N == b.N
}

// both tells that a delta has bytes, and these: they are put, and got back.
func both(t *testing.T, d api.Delta, s string) {
	t.Helper()
	put(t, d, s, api.OK)
	got(t, s, d, api.OK)
}

// none tells that there is no delta of bytes.
func none(t *testing.T, s string) {
	t.Helper()
	got(t, s, api.Delta{}, api.ErrForm)
}

// holds holds Get of bytes against the chapter's words, and tells whether there is a delta: it was put just so.
func holds(t *testing.T, s string) bool {
	t.Helper()
	c := &scan{s, true}
	d := c.delta()
	if !c.ok {
		none(t, s)
		return false
	}
	both(t, d, s)
	return true
}

// ints are numbers around those at which one byte more, or less, is wanted.
func ints() []int {
	l := []int{0, math.MinInt, math.MinInt + 1, math.MaxInt - 1, math.MaxInt}
	for bits := range 63 {
		for by := -2; by <= 2; by++ {
			l = append(l, 1<<bits+by, -1<<bits+by)
		}
	}
	return l
}

// anyDelta is a delta by chance, that may be.
func anyDelta(r *rand.Rand) api.Delta {
	d := api.Delta{Path: make([]int, r.Intn(31)>>r.Intn(5)), Op: 1 + r.Intn(7), N: int(r.Uint64()) >> r.Intn(64)}
	for i := range d.Path {
		d.Path[i] = r.Intn(200) >> r.Intn(8)
	}
	return d
}

// samples are deltas that may be.
func samples() []api.Delta {
	r := rand.New(rand.NewSource(10))
	l := []api.Delta{{Op: 1}, {Op: 7, N: math.MinInt}, {Path: []int{0}, Op: 4, N: 64}, {Path: []int{127, 128, 199}, Op: 2, N: 12}, {Path: slices.Repeat([]int{199}, 30), Op: 5}, {Path: make([]int, 30), Op: 6, N: math.MaxInt}}
	for range 40 {
		l = append(l, anyDelta(r))
	}
	return l
}

// strange are numbers that no path may have, those that fewer bits would take for one that may be among them.
func strange() []int {
	return []int{-1, -2, -128, -199, 200, 201, 255, 256, 327, 1 << 32, 1<<32 + 1, -1 << 32, math.MinInt, math.MinInt + 1, math.MaxInt - 1, math.MaxInt}
}

// full is a text of so many of one byte.
func full(b string, n int) string { return strings.Repeat(b, n) }
