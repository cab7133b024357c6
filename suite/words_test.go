package suite_test

import (
	"math"
	"math/big"
	"math/rand"
	"slices"
	"strings"
	"testing"

	"offshoot/api"
	"offshoot/suite"
)

// num is a number to the base 128, its lowest digit first, by chapter 1's words.
func num(n *big.Int) string {
	var b []byte
	for rest := new(big.Int).Set(n); ; {
		low := byte(new(big.Int).And(rest, big.NewInt(127)).Uint64())
		if rest.Rsh(rest, 7); rest.Sign() == 0 {
			return string(append(b, low))
		}
		b = append(b, low|128)
	}
}

// plain are the bytes of a number that is not below 0.
func plain(n int) string { return num(big.NewInt(int64(n))) }

// signed are the bytes of any number, by chapter 2's words: 2n, or -2n - 1, if n is below 0.
func signed(n int) string {
	z := big.NewInt(int64(n))
	z.Add(z, z)
	if n < 0 {
		z.Not(z)
	}
	return num(z)
}

// written are the bytes of tests and fuel by the chapter's words, whether they may be or not.
func written(tests [][]int, fuel int) string {
	wide := 0
	if len(tests) > 0 {
		wide = len(tests[0])
	}
	l := []string{plain(fuel), plain(len(tests)), plain(wide)}
	for _, test := range tests {
		for _, n := range test {
			l = append(l, signed(n))
		}
	}
	return strings.Join(l, "")
}

// wordsCheck is Check by the chapter's words.
func wordsCheck(params int, tests [][]int, fuel int) api.Errno {
	good := 0
	for _, test := range tests {
		if len(test) == params {
			good++
		}
	}
	switch {
	case good == 0 || good > 20 || good < len(tests):
		return api.ErrTests
	case fuel < 1 || fuel > 10000:
		return api.ErrFuel
	}
	return api.OK
}

// wordsPut is Put by the chapter's words: some number from 0 to 12 must be how many numbers each test has.
func wordsPut(tests [][]int, fuel int) (string, api.Errno) {
	for wide := range 13 {
		switch e := wordsCheck(wide, tests, fuel); e {
		case api.OK:
			return written(tests, fuel), api.OK
		case api.ErrFuel:
			return "", e
		}
	}
	return "", api.ErrTests
}

// scan goes through bytes by the chapter's words. Once something can't be so, ok is false.
type scan struct {
	s  string
	ok bool
}

// big is the number without a sign that comes next, whatever its size; one that is written longer than need be can't be so.
func (c *scan) big() *big.Int {
	n := new(big.Int)
	for i := range len(c.s) {
		n.Or(n, new(big.Int).Lsh(big.NewInt(int64(c.s[i]&127)), uint(7*i)))
		if c.s[i] < 128 {
			c.ok = c.ok && (i == 0 || c.s[i] > 0)
			c.s = c.s[i+1:]
			return n
		}
	}
	c.s, c.ok = "", false
	return new(big.Int)
}

// from is the number that comes next, from one number to another.
func (c *scan) from(least, most int64) int {
	n := c.big()
	if c.ok = c.ok && n.Cmp(big.NewInt(least)) >= 0 && n.Cmp(big.NewInt(most)) <= 0; !c.ok {
		return 0
	}
	return int(n.Int64())
}

// signed is the number with a sign that comes next.
func (c *scan) signed() int {
	z := c.big()
	n := new(big.Int).Rsh(z, 1)
	if z.Bit(0) == 1 {
		n.Not(n)
	}
	if c.ok = c.ok && n.IsInt64(); !c.ok {
		return 0
	}
	return int(n.Int64())
}

// wordsGet is Get by the chapter's words.
func wordsGet(s string) ([][]int, int, api.Errno) {
	c := &scan{s, true}
	fuel, many, wide := c.from(1, 10000), c.from(1, 20), c.from(0, 12)
	var tests [][]int
	for range many {
		var test []int
		for range wide {
			test = append(test, c.signed())
		}
		tests = append(tests, test)
	}
	if !c.ok || c.s != "" {
		return nil, 0, api.ErrForm
	}
	return tests, fuel, api.OK
}

// mark stands in the room behind lists, and in lists that are spoiled.
const mark = -7777777

// roomy are the same tests in memory of their own, with room behind each list, full of marks.
func roomy(tests [][]int) [][]int {
	l := make([][]int, 0, len(tests)+3)
	for _, test := range tests {
		l = append(l, slices.Concat(test, slices.Repeat([]int{mark}, 3))[:len(test)])
	}
	return append(l, []int{mark}, []int{mark}, []int{mark})[:len(tests)]
}

// alike tells whether tests are as many, and the same, number by number.
func alike(a, b [][]int) bool {
	if len(a) != len(b) {
		return false
	}
	for i := range a {
		if !slices.Equal(a[i], b[i]) {
			return false
		}
	}
	return true
}

// unchanged tells whether roomy tests, and the room behind them, are as they were.
func unchanged(l, was [][]int) bool {
	for _, test := range l {
		if !slices.Equal(test[len(test):len(test)+3], []int{mark, mark, mark}) {
			return false
		}
	}
	return alike(l, was) && alike(l[len(l):len(l)+3], [][]int{{mark}, {mark}, {mark}})
}

// short are as many tests, and numbers of them, as fit on a line.
func short(tests [][]int) [][]int {
	var l [][]int
	for _, test := range tests[:min(len(tests), 22)] {
		l = append(l, test[:min(len(test), 14)])
	}
	return l
}

// check holds Check against what it must tell, of the tests as they are and of ones with room behind; they stay as they were.
func check(t *testing.T, params int, tests [][]int, fuel int, want api.Errno) {
	t.Helper()
	given := roomy(tests)
	for _, l := range [][][]int{tests, given, given, tests} {
		if e := suite.Check(params, l, fuel); e != want {
			t.Fatalf("Check(%d, %v, %d) of %d tests: %v, not %v", params, short(l), fuel, len(l), e, want)
		}
	}
	if !unchanged(given, tests) {
		t.Fatalf("Check(%d, %v, %d): %v is left", params, short(tests), fuel, short(given))
	}
}

// put holds Put against what it must tell, of the tests as they are and of ones with room behind; they stay as they were.
func put(t *testing.T, tests [][]int, fuel int, want string, wrong api.Errno) {
	t.Helper()
	given := roomy(tests)
	for _, l := range [][][]int{tests, given, given, tests} {
		if s, e := suite.Put(l, fuel); s != want || e != wrong {
			t.Fatalf("Put(%v, %d) of %d tests: %x %v, not %x %v", short(l), fuel, len(l), s, e, want, wrong)
		}
	}
	if !unchanged(given, tests) {
		t.Fatalf("Put(%v, %d): %v is left", short(tests), fuel, short(given))
	}
}

// got holds Get against what it must tell, told three times. Who changes a list of an answer, and the room behind it, changes neither another list of it nor another answer.
func got(t *testing.T, s string, want [][]int, fuel int, wrong api.Errno) {
	t.Helper()
	tell := func() [][]int {
		t.Helper()
		l, n, e := suite.Get(s)
		if !alike(l, want) || n != fuel || e != wrong {
			t.Fatalf("Get of %x: %v %d %v, not %v %d %v", s, short(l), n, e, short(want), fuel, wrong)
		}
		return l
	}
	first, second := tell(), tell()
	for i, test := range first {
		for j := range test[:cap(test)] {
			test[:cap(test)][j] = mark - i
		}
	}
	for i, test := range first { // so a list that is shared bears the mark of the last one that shares it
		if slices.ContainsFunc(test[:cap(test)], func(n int) bool { return n != mark-i }) {
			t.Fatalf("Get of %x: the test at %d is shared", s, i)
		}
	}
	clear(first[:cap(first)])
	if !alike(second, want) {
		t.Fatalf("Get of %x: %v, once another answer was changed", s, short(second))
	}
	tell()
}

// both holds that tests and fuel have these bytes, and that they are told as those tests and that fuel.
func both(t *testing.T, tests [][]int, fuel int, s string) {
	t.Helper()
	put(t, tests, fuel, s, api.OK)
	got(t, s, tests, fuel, api.OK)
}

// may holds that tests and fuel are put, by the chapter's words, and got back.
func may(t *testing.T, tests [][]int, fuel int) {
	t.Helper()
	both(t, tests, fuel, written(tests, fuel))
}

// none holds that nothing is got of bytes.
func none(t *testing.T, s string) {
	t.Helper()
	got(t, s, nil, 0, api.ErrForm)
}

// hold holds Get of bytes against the chapter's words; what is got was put just so. It tells whether there is something.
func hold(t *testing.T, s string) bool {
	t.Helper()
	tests, fuel, e := wordsGet(s)
	got(t, s, tests, fuel, e)
	if e == api.OK {
		put(t, tests, fuel, s, api.OK)
	}
	return e == api.OK
}

// many are so many tests with so many numbers each, no two of them alike.
func many(tests, wide int) [][]int {
	l := make([][]int, tests)
	for i := range l {
		for j := range wide {
			l[i] = append(l[i], (i*wide+j)*5-30)
		}
	}
	return l
}

// with are tests with another one at a place.
func with(tests [][]int, at int, test []int) [][]int {
	l := slices.Clone(tests)
	l[at] = test
	return l
}

// numbers are the least and the greatest number there is, those around 0, and those at which one byte more is wanted.
func numbers() []int {
	l := []int{math.MinInt, math.MinInt + 1, -2, -1, 0, 1, 2, math.MaxInt - 1, math.MaxInt}
	for bits := 6; bits < 64; bits += 7 {
		n := 1 << bits
		l = append(l, n-1, n, n+1, -n-1, -n, -n+1)
	}
	return l
}

// rows are all lists of so many of these things.
func rows[T any](size int, of []T) [][]T {
	l := [][]T{{}}
	for range size {
		var longer [][]T
		for _, row := range l {
			for _, x := range of {
				longer = append(longer, slices.Concat(row, []T{x}))
			}
		}
		l = longer
	}
	return l
}

// chance are tests by chance that may be, with numbers of all lengths.
func chance(r *rand.Rand) [][]int {
	tests, wide := make([][]int, 1+r.Intn(20)), r.Intn(13)
	for i := range tests {
		for range wide {
			tests[i] = append(tests[i], int(r.Uint64())>>r.Intn(64))
		}
	}
	return tests
}
