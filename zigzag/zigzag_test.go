package zigzag_test

import (
	"math"
	"math/big"
	"math/rand"
	"strings"
	"testing"

	"offshoot/api"
	"offshoot/leb"
	"offshoot/zigzag"
)

// form is a number with a sign, the one that tells it, and the only bytes of it, written out by hand.
type form struct {
	n int
	u uint64
	s string
}

// forms are ordinary numbers and the edges: 0, the numbers with and without a sign on both sides of each length, the least and the greatest number.
func forms() []form {
	nines := strings.Repeat("\xff", 9)
	l := []form{
		{0, 0, "\x00"}, {-1, 1, "\x01"}, {1, 2, "\x02"}, {-2, 3, "\x03"}, {2, 4, "\x04"},
		{-3, 5, "\x05"}, {63, 126, "\x7e"}, {-64, 127, "\x7f"}, {64, 128, "\x80\x01"}, {-65, 129, "\x81\x01"},
		{150, 300, "\xac\x02"}, {-151, 301, "\xad\x02"},
		{1<<31 - 1, 1<<32 - 2, "\xfe\xff\xff\xff\x0f"}, {-1 << 31, 1<<32 - 1, "\xff\xff\xff\xff\x0f"},
		{1 << 31, 1 << 32, "\x80\x80\x80\x80\x10"}, {-1<<31 - 1, 1<<32 + 1, "\x81\x80\x80\x80\x10"},
		{math.MaxInt - 1, 1<<64 - 4, "\xfc" + nines[1:] + "\x01"}, {math.MinInt + 1, 1<<64 - 3, "\xfd" + nines[1:] + "\x01"},
		{math.MaxInt, 1<<64 - 2, "\xfe" + nines[1:] + "\x01"}, {math.MinInt, 1<<64 - 1, nines + "\x01"},
	}
	for k := 2; k <= 9; k++ {
		half, more := 1<<(7*k-1), uint64(1)<<(7*k)
		full, nought := strings.Repeat("\xff", k-2), strings.Repeat("\x80", k-1)
		l = append(l,
			form{half - 1, more - 2, "\xfe" + full + "\x7f"}, form{-half, more - 1, "\xff" + full + "\x7f"},
			form{half, more, "\x80" + nought + "\x01"}, form{-half - 1, more + 1, "\x81" + nought + "\x01"})
	}
	return l
}

// numbers are those of forms, all near 0, and many more of each length, with and without a sign.
func numbers() []int {
	var l []int
	for _, x := range forms() {
		l = append(l, x.n)
	}
	for n := -20000; n <= 20000; n++ {
		l = append(l, n)
	}
	r := rand.New(rand.NewSource(1))
	for i := range 20000 {
		n := int(r.Uint64() >> 1 >> (i % 63))
		l = append(l, n, -n, -n-1)
	}
	return l
}

// teller is what the chapter says of Zig, reckoned apart from the package, with numbers of any size.
func teller(n int) *big.Int {
	b := new(big.Int).Mul(big.NewInt(int64(n)), big.NewInt(2))
	if n < 0 {
		b.Neg(b)
		b.Sub(b, big.NewInt(1))
	}
	return b
}

// get holds Get against leb.Get, and what was read against what is written.
func get(t *testing.T, s string, at int) {
	t.Helper()
	n, to, e := zigzag.Get(s, at)
	u, wto, we := leb.Get(s, at)
	switch {
	case e != we || to != wto:
		t.Fatalf("Get(%x, %d): %d %d %v, not to %d with %v", s, at, n, to, e, wto, we)
	case e != api.OK && (n != 0 || to != at):
		t.Fatalf("Get(%x, %d): %d %d beside %v", s, at, n, to, e)
	case e == api.OK && (teller(n).Cmp(new(big.Int).SetUint64(u)) != 0 || zigzag.Put(n) != s[at:to]):
		t.Fatalf("Get(%x, %d): %d, that is written %x", s, at, n, zigzag.Put(n))
	}
}

func TestForms(t *testing.T) {
	for _, x := range forms() {
		if u := zigzag.Zig(x.n); u != x.u {
			t.Errorf("Zig(%d): %d, not %d", x.n, u, x.u)
		}
		if n := zigzag.Zag(x.u); n != x.n {
			t.Errorf("Zag(%d): %d, not %d", x.u, n, x.n)
		}
		if s := zigzag.Put(x.n); s != x.s {
			t.Errorf("Put(%d): %x, not %x", x.n, s, x.s)
		}
		if n, to, e := zigzag.Get(x.s, 0); n != x.n || to != len(x.s) || e != api.OK {
			t.Errorf("Get(%x, 0): %d %d %v, not %d", x.s, n, to, e, x.n)
		}
	}
}

// Each number has one that tells it: 2n, or -2n - 1, and back again.
func TestEachNumberIsTold(t *testing.T) {
	for _, n := range numbers() {
		u := zigzag.Zig(n)
		if w := teller(n); w.Cmp(new(big.Int).SetUint64(u)) != 0 {
			t.Fatalf("Zig(%d): %d, not %v", n, u, w)
		}
		if m := zigzag.Zag(u); m != n {
			t.Fatalf("Zag(%d): %d, not %d", u, m, n)
		}
	}
}

// Each number without a sign tells one, and none tells what another one tells.
func TestEachNumberTells(t *testing.T) {
	seen := map[int]uint64{}
	tell := func(u uint64) {
		n := zigzag.Zag(u)
		if teller(n).Cmp(new(big.Int).SetUint64(u)) != 0 || zigzag.Zig(n) != u {
			t.Fatalf("Zag(%d): %d, that %v tells, and Zig %d", u, n, teller(n), zigzag.Zig(n))
		}
		if before, ok := seen[n]; ok && before != u {
			t.Fatalf("%d and %d both tell %d", before, u, n)
		}
		seen[n] = u
	}
	for u := range uint64(40000) {
		tell(u)
		tell(math.MaxUint64 - u)
	}
	for k := range 64 {
		for d := range uint64(9) {
			tell(1<<k + d - 4)
		}
	}
	r := rand.New(rand.NewSource(2))
	for i := range 20000 {
		tell(r.Uint64() >> (i % 64))
	}
}

// Numbers near 0 have few bytes: k of them are enough from -2^(7k - 1) to 2^(7k - 1) - 1, and for no number beyond.
func TestNearNoughtIsShort(t *testing.T) {
	for _, n := range numbers() {
		k := 1
		for k < 10 && (n < -1<<(7*k-1) || n > 1<<(7*k-1)-1) {
			k++
		}
		if s := zigzag.Put(n); len(s) != k {
			t.Fatalf("Put(%d): %x, not of %d bytes", n, s, k)
		}
	}
}

// What is written is read back, whatever stands ahead of it and behind it.
func TestPutThenGet(t *testing.T) {
	for i, n := range numbers() {
		s := zigzag.Put(n)
		if s != leb.Put(zigzag.Zig(n)) {
			t.Fatalf("Put(%d): %x", n, s)
		}
		ahead := []string{"", "\x00", "\xff", strings.Repeat("\x80", 11)}[i%4]
		for _, behind := range []string{"", "\x00", "\x7f", "\xff", "\x80\x01", s} {
			m, to, e := zigzag.Get(ahead+s+behind, len(ahead))
			if m != n || to != len(ahead)+len(s) || e != api.OK {
				t.Fatalf("Get(%x, %d): %d %d %v, not %d", ahead+s+behind, len(ahead), m, to, e, n)
			}
		}
	}
}

// Numbers one behind the other are read one by one, and end at the length of the text.
func TestGetInARow(t *testing.T) {
	var b strings.Builder
	l := numbers()
	for _, n := range l {
		b.WriteString(zigzag.Put(n))
	}
	s, at := b.String(), 0
	for i, n := range l {
		m, to, e := zigzag.Get(s, at)
		if m != n || to != at+len(zigzag.Put(n)) || e != api.OK {
			t.Fatalf("%d: %d %d %v, not %d", i, m, to, e, n)
		}
		at = to
	}
	if n, to, e := zigzag.Get(s, at); at != len(s) || n != 0 || to != at || e != api.ErrShort {
		t.Errorf("at the end: %d %d %v", n, to, e)
	}
}

func TestGetWrong(t *testing.T) {
	full := strings.Repeat("\xff", 9)
	nought := strings.Repeat("\x80", 9)
	for _, x := range []struct {
		name string
		s    string
		at   int
		e    api.Errno
	}{
		{"ahead of the text", "\x01", -1, api.ErrArg},
		{"far ahead of it", "\x01", math.MinInt, api.ErrArg},
		{"behind it", "\x01", 2, api.ErrArg},
		{"far behind it", "\x01", math.MaxInt, api.ErrArg},
		{"behind an empty one", "", 1, api.ErrArg},
		{"at the end of an empty one", "", 0, api.ErrShort},
		{"at the end", "\x01\x02", 2, api.ErrShort},
		{"cut behind one byte", "\x80", 0, api.ErrShort},
		{"cut behind two", "\x01\xff\x80", 1, api.ErrShort},
		{"the least number, cut", "\x00" + full, 1, api.ErrShort},
		{"ten without an end, and no more", full + "\xff", 0, api.ErrNumber},
		{"ten without an end, and one behind", full + "\xff\x01", 0, api.ErrNumber},
		{"0 in two bytes", "\x80\x00", 0, api.ErrNumber},
		{"-64 in two bytes", "\xff\x00", 0, api.ErrNumber},
		{"150 in three bytes, further on", "\x05\xac\x82\x00\x07", 1, api.ErrNumber},
		{"0 in ten bytes", nought + "\x00", 0, api.ErrNumber},
		{"a number that 2^64 would tell", nought + "\x02", 0, api.ErrNumber},
		{"one that more than 2^64 would tell", full + "\x7f", 0, api.ErrNumber},
	} {
		if n, to, e := zigzag.Get(x.s, x.at); n != 0 || to != x.at || e != x.e {
			t.Errorf("%s: Get(%x, %d): %d %d %v, not %v", x.name, x.s, x.at, n, to, e, x.e)
		}
	}
}

// Each number has one form: all texts that are short, and all last bytes of those that are long.
func TestOneForm(t *testing.T) {
	for a := range 256 {
		get(t, string([]byte{byte(a)}), 0)
		for b := range 256 {
			get(t, string([]byte{byte(a), byte(b)}), 0)
		}
	}
	for _, fill := range []string{"\x80", "\x81", "\xfe", "\xff"} {
		for k := range 13 {
			for last := range 256 {
				get(t, strings.Repeat(fill, k)+string([]byte{byte(last)}), 0)
			}
		}
	}
}

// Every call ends and none panics, whatever the text is and the place; and it tells the same again.
func TestAnyArguments(t *testing.T) {
	r := rand.New(rand.NewSource(3))
	for range 20000 {
		b := make([]byte, r.Intn(24))
		for i := range b {
			b[i] = byte(r.Intn(256))
			if r.Intn(4) > 0 {
				b[i] |= 128
			}
		}
		s := string(b)
		for _, at := range []int{math.MinInt, math.MinInt32, -1, 0, 1, len(s) / 2, len(s) - 1, len(s), len(s) + 1, math.MaxInt32, math.MaxInt - 1, math.MaxInt} {
			get(t, s, at)
			get(t, s, at)
		}
	}
}
