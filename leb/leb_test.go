package leb_test

import (
	"math"
	"math/big"
	"math/rand"
	"strings"
	"testing"

	"offshoot/api"
	"offshoot/leb"
)

// form is a number and the only bytes that tell it, written out by hand.
type form struct {
	n uint64
	s string
}

// forms are ordinary numbers and the edges: 0, the first and the last number of each length, 2^64 - 1.
func forms() []form {
	l := []form{
		{0, "\x00"}, {1, "\x01"}, {2, "\x02"}, {64, "\x40"}, {300, "\xac\x02"}, {624485, "\xe5\x8e\x26"},
		{1<<32 - 1, "\xff\xff\xff\xff\x0f"}, {1 << 32, "\x80\x80\x80\x80\x10"},
		{1<<64 - 2, "\xfe" + strings.Repeat("\xff", 8) + "\x01"}, {1<<64 - 1, strings.Repeat("\xff", 9) + "\x01"},
	}
	for k := 1; k <= 9; k++ {
		last := uint64(1)<<(7*k) - 1
		l = append(l, form{last, strings.Repeat("\xff", k-1) + "\x7f"}, form{last + 1, strings.Repeat("\x80", k) + "\x01"})
	}
	return l
}

// numbers are those of forms, and many more of each length.
func numbers() []uint64 {
	var l []uint64
	for _, x := range forms() {
		l = append(l, x.n)
	}
	r := rand.New(rand.NewSource(1))
	for i := range 20000 {
		l = append(l, r.Uint64()>>(i%64))
	}
	return l
}

// told is what the chapter says of Get, reckoned apart from the package, with numbers of any size.
func told(s string, at int) (uint64, int, api.Errno) {
	if at < 0 || at > len(s) {
		return 0, at, api.ErrArg
	}
	last := -1
	for i := at; i < min(at+10, len(s)) && last < 0; i++ {
		if s[i] < 128 {
			last = i
		}
	}
	switch {
	case last < 0 && len(s)-at < 10:
		return 0, at, api.ErrShort
	case last < 0:
		return 0, at, api.ErrNumber
	}
	n := new(big.Int)
	for i := last; i >= at; i-- {
		n.Mul(n, big.NewInt(128))
		n.Add(n, big.NewInt(int64(s[i]&127)))
	}
	if !n.IsUint64() || last > at && s[last] == 0 {
		return 0, at, api.ErrNumber
	}
	return n.Uint64(), last + 1, api.OK
}

// get holds Get against what the chapter says, and what was read against what is written.
func get(t *testing.T, s string, at int) {
	t.Helper()
	n, to, e := leb.Get(s, at)
	if wn, wto, we := told(s, at); n != wn || to != wto || e != we {
		t.Fatalf("Get(%x, %d): %d %d %v, not %d %d %v", s, at, n, to, e, wn, wto, we)
	}
	if e == api.OK && (leb.Put(n) != s[at:to] || leb.Size(n) != to-at) {
		t.Fatalf("Get(%x, %d): %d, that is written %x", s, at, n, leb.Put(n))
	}
}

func TestPutAndSize(t *testing.T) {
	for _, x := range forms() {
		if s := leb.Put(x.n); s != x.s {
			t.Errorf("Put(%d): %x, not %x", x.n, s, x.s)
		}
		if c := leb.Size(x.n); c != len(x.s) {
			t.Errorf("Size(%d): %d, not %d", x.n, c, len(x.s))
		}
	}
}

func TestPutIsShortest(t *testing.T) {
	for _, n := range numbers() {
		s := leb.Put(n)
		if len(s) < 1 || len(s) > 10 || leb.Size(n) != len(s) {
			t.Fatalf("%d: %x, and Size %d", n, s, leb.Size(n))
		}
		if len(s) > 1 && (n>>(7*(len(s)-1)) == 0 || s[len(s)-1] == 0) {
			t.Fatalf("%d: %x has more bytes than it needs", n, s)
		}
		for i := range len(s) {
			if last := i == len(s)-1; s[i] < 128 != last {
				t.Fatalf("%d: byte %d of %x", n, i, s)
			}
		}
	}
}

// What is written is read back, whatever stands ahead of it and behind it.
func TestPutThenGet(t *testing.T) {
	for _, n := range numbers() {
		s := leb.Put(n)
		for _, ahead := range []string{"", "\x00", "\xff", "\x80\x80\x80\x80\x80\x80\x80\x80\x80\x80\x80"} {
			for _, behind := range []string{"", "\x00", "\x7f", "\xff", "\x80\x01", s} {
				m, to, e := leb.Get(ahead+s+behind, len(ahead))
				if m != n || to != len(ahead)+len(s) || e != api.OK {
					t.Fatalf("Get(%x, %d): %d %d %v, not %d", ahead+s+behind, len(ahead), m, to, e, n)
				}
			}
		}
	}
}

// Numbers one behind the other are read one by one, and end at the length of the text.
func TestGetInARow(t *testing.T) {
	var b strings.Builder
	l := numbers()
	for _, n := range l {
		b.WriteString(leb.Put(n))
	}
	s, at := b.String(), 0
	for i, n := range l {
		m, to, e := leb.Get(s, at)
		if m != n || to != at+leb.Size(n) || e != api.OK {
			t.Fatalf("%d: %d %d %v, not %d", i, m, to, e, n)
		}
		at = to
	}
	if n, to, e := leb.Get(s, at); at != len(s) || n != 0 || to != at || e != api.ErrShort {
		t.Errorf("at the end: %d %d %v", n, to, e)
	}
}

func TestGetWrong(t *testing.T) {
	full := strings.Repeat("\xff", 9)
	nought := strings.Repeat("\x80", 9)
	for _, x := range []struct {
		name string
		s    string
		at   int
		e    api.Errno
	}{
		{"ahead of the text", "\x01", -1, api.ErrArg},
		{"far ahead of it", "\x01", math.MinInt, api.ErrArg},
		{"behind it", "\x01", 2, api.ErrArg},
		{"far behind it", "\x01", math.MaxInt, api.ErrArg},
		{"behind an empty one", "", 1, api.ErrArg},
		{"behind one that is cut", "\x80", 2, api.ErrArg},
		{"at the end of an empty one", "", 0, api.ErrShort},
		{"at the end", "\x01\x02", 2, api.ErrShort},
		{"cut behind one byte", "\x80", 0, api.ErrShort},
		{"cut behind two", "\x01\xff\x80", 1, api.ErrShort},
		{"cut behind nine", full, 0, api.ErrShort},
		{"cut behind nine, further on", full + full, 9, api.ErrShort},
		{"ten without an end, and no more", full + "\xff", 0, api.ErrNumber},
		{"ten without an end, further on", "\x00" + nought + "\x80", 1, api.ErrNumber},
		{"ten without an end, and one behind", full + "\xff\x01", 0, api.ErrNumber},
		{"ten without an end, and 0 behind", nought + "\x80\x00", 0, api.ErrNumber},
		{"0 in two bytes", "\x80\x00", 0, api.ErrNumber},
		{"127 in two bytes", "\xff\x00", 0, api.ErrNumber},
		{"127 in three bytes", "\xff\x80\x00", 0, api.ErrNumber},
		{"300 in three bytes", "\x05\xac\x82\x00\x07", 1, api.ErrNumber},
		{"0 in ten bytes", nought + "\x00", 0, api.ErrNumber},
		{"2^63 - 1 in ten bytes", full + "\x00", 0, api.ErrNumber},
		{"2^64", nought + "\x02", 0, api.ErrNumber},
		{"2^64 + 2^63", nought + "\x03", 0, api.ErrNumber},
		{"more than 2^64 - 1, of all bits", full + "\x7f", 0, api.ErrNumber},
	} {
		if n, to, e := leb.Get(x.s, x.at); n != 0 || to != x.at || e != x.e {
			t.Errorf("%s: Get(%x, %d): %d %d %v, not %v", x.name, x.s, x.at, n, to, e, x.e)
		}
	}
}

// Each number has one form: all texts that are short, and all last bytes of those that are long.
func TestOneForm(t *testing.T) {
	for a := range 256 {
		get(t, string([]byte{byte(a)}), 0)
		for b := range 256 {
			get(t, string([]byte{byte(a), byte(b)}), 0)
			for _, c := range []byte{0, 1, 2, 126, 127, 128, 129, 255} {
				get(t, string([]byte{byte(a), byte(b), c}), 0)
			}
		}
	}
	for _, fill := range []string{"\x80", "\x81", "\xfe", "\xff"} {
		for k := range 13 {
			for last := range 256 {
				get(t, strings.Repeat(fill, k)+string([]byte{byte(last)}), 0)
			}
		}
	}
}

// Every call ends and none panics, whatever the text is and the place; and it tells the same again.
func TestAnyArguments(t *testing.T) {
	r := rand.New(rand.NewSource(2))
	for range 20000 {
		b := make([]byte, r.Intn(24))
		for i := range b {
			b[i] = byte(r.Intn(256))
			if r.Intn(4) > 0 {
				b[i] |= 128
			}
		}
		s := string(b)
		for _, at := range []int{math.MinInt, math.MinInt32, -1, 0, 1, len(s) / 2, len(s) - 1, len(s), len(s) + 1, math.MaxInt32, math.MaxInt - 1, math.MaxInt} {
			get(t, s, at)
			get(t, s, at)
		}
	}
}
