package suite_test

import (
	"math"
	"math/big"
	"math/rand"
	"slices"
	"strings"
	"testing"
)

// samples are bytes of tests and fuel that may be: the edges, and some by chance.
func samples() []string {
	r := rand.New(rand.NewSource(3))
	l := []string{
		written([][]int{{3, -1}}, 5), written([][]int{nil}, 1), written(make([][]int, 20), 10000), written(many(20, 12), 10000),
		written(many(1, 12), 127), written(many(20, 1), 128), written([][]int{numbers()[:12], numbers()[12:24]}, 9999),
		written([][]int{{math.MinInt}, {math.MaxInt}}, 1), written([][]int{{63, 64}, {-64, -65}}, 300),
	}
	for range 12 {
		l = append(l, written(chance(r)[:1], 1+r.Intn(10000)), written(chance(r)[:1], 1+r.Intn(200)))
	}
	return l
}

// There is nothing without bytes, nor with a part of them, nor with bytes behind.
func TestCut(t *testing.T) {
	none(t, "")
	for _, s := range samples() {
		if !hold(t, s) {
			t.Fatalf("%x is none", s)
		}
		for i := range s {
			none(t, s[:i])
			hold(t, s[i:])
		}
		for x := range 256 {
			none(t, s+string([]byte{byte(x)}))
		}
		for _, behind := range []string{s, "\x80\x00", strings.Repeat("\x00", 300), strings.Repeat("\xff", 300)} {
			none(t, s+behind)
		}
	}
}

// Each byte changed to each other one (in long texts, to some of them): what is told then was put just so.
func TestChanged(t *testing.T) {
	let, all := 0, 0
	for _, s := range samples() {
		b, step := []byte(s), 1
		if len(s) > 100 {
			step = 37
		}
		for i := range b {
			for x := 1; x < 256; x += step {
				b[i] = s[i] + byte(x)
				all++
				if hold(t, string(b)) {
					let++
				}
			}
			b[i] = s[i]
		}
	}
	if let < 1000 || let > all*3/4 {
		t.Errorf("%d of %d were let", let, all)
	}
}

// A byte put in, or taken out, at each place; two of them changed for one another.
func TestMoved(t *testing.T) {
	for _, s := range samples() {
		for i := range s {
			hold(t, s[:i]+s[i+1:])
			for _, x := range []string{"\x00", "\x01", "\x02", "\x0d", "\x14", "\x7f", "\x80", "\xff"} {
				hold(t, s[:i]+x+s[i:])
			}
			b := []byte(s)
			j := (i + 1) % len(b)
			b[i], b[j] = b[j], b[i]
			hold(t, string(b))
		}
	}
}

// All short texts of bytes without another one behind: just those that may be are told.
func TestShort(t *testing.T) {
	if let := below(t, "\x00\x01\x02", 7); let != 2*(1+3+9)+2*(1+9+81) { // fuel 1 and 2, by one test and two, of none to two numbers of three
		t.Errorf("%d were let", let)
	}
	if let := below(t, "\x00\x01\x02\x0c\x0d\x14\x15\x7f\x80\x91\xff", 5); let < 500 {
		t.Errorf("%d were let", let)
	}
}

// below holds all texts of these bytes, no longer than most, and tells how many were let.
func below(t *testing.T, bytes string, most int) int {
	let := 0
	for size := range most + 1 {
		for _, text := range rows(size, []byte(bytes)) {
			if hold(t, string(text)) {
				let++
			}
		}
	}
	return let
}

// longer is a number's bytes with groups of nought behind: more than it needs.
func longer(s string, more int) string {
	last := len(s) - 1
	return s[:last] + string([]byte{s[last] | 128}) + strings.Repeat("\x80", more-1) + "\x00"
}

// Each number is told in as few groups as can be.
func TestGroups(t *testing.T) {
	for more := 1; more <= 12; more++ {
		for _, fuel := range []int{1, 127, 128, 10000} {
			none(t, longer(plain(fuel), more)+"\x01\x00")
			none(t, longer(plain(fuel), more)+"\x01\x01\x00")
		}
		for n := 1; n <= 20; n++ {
			none(t, "\x05"+longer(plain(n), more)+"\x00")
			none(t, "\x05"+longer(plain(n), more)+"\x01"+strings.Repeat("\x00", n))
		}
		for wide := range 13 {
			none(t, "\x05\x01"+longer(plain(wide), more)+strings.Repeat("\x00", wide))
			none(t, "\x05\x02"+longer(plain(wide), more)+strings.Repeat("\x00", 2*wide))
		}
		for _, n := range numbers() {
			z := longer(signed(n), more)
			none(t, "\x05\x01\x01"+z)
			none(t, "\x05\x01\x02"+z+"\x00")
			none(t, "\x05\x01\x02\x00"+z)
			none(t, "\x05\x02\x01\x00"+z)
		}
	}
}

// beyond are bytes of numbers that are more than any count or fuel that there may be, whatever their lowest bits: those are n's.
func beyond(n int) []string {
	var l []string
	for _, bits := range []uint{14, 16, 31, 32, 33, 62, 63, 64, 65, 69, 70} {
		x := new(big.Int).Lsh(big.NewInt(1), bits)
		l = append(l, num(x.Add(x, big.NewInt(int64(n)))))
	}
	least, greatest := new(big.Int).Lsh(big.NewInt(1), 63), new(big.Int).SetUint64(math.MaxUint64)
	l = append(l, plain(math.MaxInt), num(least), num(greatest), num(new(big.Int).Sub(greatest, big.NewInt(int64(n)))))
	return append(l, strings.Repeat("\x80", 10), strings.Repeat("\xff", 9)+"\x02", strings.Repeat("\xff", 10), strings.Repeat("\xff", 40))
}

// Fuel and counts that are too great are none, nor are counts of more than stands behind; nothing is made ahead for them.
func TestGreat(t *testing.T) {
	for _, behind := range []string{"", "\x00", "\x00\x00", strings.Repeat("\x00", 24), strings.Repeat("\x00", 300), strings.Repeat("\x7f", 1<<16)} {
		for _, n := range []int{0, 1, 2, 12, 20} {
			for _, x := range beyond(n) {
				none(t, x+"\x01\x00"+behind)
				none(t, x+"\x01\x01\x00"+behind)
				none(t, "\x01"+x+"\x00"+behind)
				none(t, "\x01"+x+"\x01\x00"+behind)
				none(t, "\x01\x01"+x+behind)
				none(t, "\x01\x02"+x+behind)
				none(t, x+x+x+behind)
				none(t, "\x01"+x+x+behind)
			}
		}
	}
	for _, z := range []string{strings.Repeat("\xff", 9) + "\x02", strings.Repeat("\xff", 9) + "\x7f", strings.Repeat("\x80", 9) + "\x02", strings.Repeat("\x80", 10) + "\x01", strings.Repeat("\xff", 10), strings.Repeat("\xff", 40)} { // of Int
		none(t, "\x01\x01\x01"+z)
		none(t, "\x01\x02\x01"+z+"\x00")
		none(t, "\x01\x02\x01\x00"+z)
	}
}

// Fuel of each size up to beyond two bytes: just 1 to 10000 are told.
func TestFuels(t *testing.T) {
	for fuel := range 20000 {
		if ok := hold(t, plain(fuel)+"\x02\x01\x05\x06"); ok != (fuel >= 1 && fuel <= 10000) {
			t.Errorf("fuel %d: %v", fuel, ok)
		}
	}
}

// Each count of tests, and of numbers, with just as many behind, one fewer and one more.
func TestCounts(t *testing.T) {
	for n := range 300 {
		for _, wide := range []int{0, 1, 2, 12, 13, 14, 127, 128, 255, 256, 257, 300} {
			s := "\x05" + plain(n) + plain(wide) + strings.Repeat("\x02", n*wide)
			if ok := hold(t, s); ok != (n >= 1 && n <= 20 && wide <= 12) {
				t.Fatalf("%d tests of %d numbers: %v", n, wide, ok)
			}
			none(t, s+"\x02")
			if n*wide > 0 {
				none(t, s[:len(s)-1])
			}
		}
	}
	for wide := range 300 {
		s := "\x05\x01" + plain(wide) + strings.Repeat("\x02", wide)
		if ok := hold(t, s); ok != (wide <= 12) {
			t.Errorf("one test of %d numbers: %v", wide, ok)
		}
		none(t, "\x05\x00"+plain(wide)+strings.Repeat("\x02", wide))
		none(t, "\x05\x00"+plain(wide))
		none(t, "\x00\x01"+plain(wide)+strings.Repeat("\x02", wide))
		none(t, "\x91\x4e\x01"+plain(wide)+strings.Repeat("\x02", wide))
	}
}

// Texts by chance: bytes of suites, changed, cut and put together, and any bytes.
func TestChance(t *testing.T) {
	r := rand.New(rand.NewSource(4))
	let := 0
	for range 60000 {
		b := []byte(written(chance(r)[:1], 1+r.Intn(300)))
		for range r.Intn(3) {
			b[r.Intn(len(b))] = byte(r.Intn(24))
		}
		switch r.Intn(4) {
		case 0:
			b = b[:r.Intn(len(b))]
		case 1:
			u := written(chance(r), 1+r.Intn(300))
			b = append(b[:r.Intn(len(b))], u[r.Intn(len(u)):]...)
		case 2:
			b[r.Intn(len(b))] = byte(r.Intn(256))
		}
		if hold(t, string(b)) {
			let++
		}
		b = make([]byte, r.Intn(40))
		r.Read(b)
		hold(t, string(b))
		hold(t, "\x05\x02\x01"+string(b))
	}
	if let < 1000 {
		t.Errorf("%d were let", let)
	}
}

// A test that is changed in one number, or fuel that is, has other bytes.
func TestNeighbours(t *testing.T) {
	r := rand.New(rand.NewSource(5))
	for range 100 {
		tests, fuel := chance(r), 2+r.Intn(9998)
		tests = tests[:min(len(tests), 5)]
		s := written(tests, fuel)
		other := func(tests [][]int, fuel int) {
			t.Helper()
			u := written(tests, fuel)
			if u == s {
				t.Fatalf("%v, %d: %x, as %x", short(tests), fuel, u, s)
			}
			both(t, tests, fuel, u)
		}
		other(tests, fuel-1)
		other(tests, fuel+1)
		if len(tests) < 20 {
			other(append(slices.Clone(tests), tests[0]), fuel)
		}
		if len(tests) > 1 {
			other(tests[1:], fuel)
			other(tests[:len(tests)-1], fuel)
		}
		for i := range tests {
			for j := range tests[i] {
				for _, by := range []int{-1, 1, 128, 1 << 32, math.MinInt} {
					tests[i][j] += by
					other(tests, fuel)
					tests[i][j] -= by
				}
			}
		}
		both(t, tests, fuel, s)
	}
}
