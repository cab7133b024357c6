package delta_test

import (
	"math"
	"math/rand"
	"slices"
	"testing"

	"offshoot/api"
)

// There is no delta without bytes, nor of bytes cut at any place, nor with bytes behind.
func TestCut(t *testing.T) {
	none(t, "")
	for _, d := range samples() {
		s := written(d)
		both(t, d, s)
		for i := range s {
			none(t, s[:i])
			holds(t, s[i:])
		}
		for _, behind := range []string{"\x00", "\x01", "\x7f", "\x80", "\xff", s, full("\x00", 300)} {
			none(t, s+behind)
		}
	}
}

// Each byte changed to each other one: what is told then was put just so.
func TestChanged(t *testing.T) {
	let, all := 0, 0
	for _, d := range samples() {
		s := written(d)
		b := []byte(s)
		for i := range b {
			for x := 1; x < 256; x++ {
				b[i] = s[i] + byte(x)
				all++
				if holds(t, string(b)) {
					let++
				}
			}
			b[i] = s[i]
		}
		both(t, d, s)
	}
	if let < 1000 || let > all*3/4 {
		t.Errorf("%d of %d were let", let, all)
	}
}

// A byte put in, or taken out, at each place; two of them changed for one another.
func TestMoved(t *testing.T) {
	for _, d := range samples() {
		s := written(d)
		for i := range s {
			holds(t, s[:i]+s[i+1:])
			for x := range 256 {
				holds(t, s[:i]+string([]byte{byte(x)})+s[i:])
			}
			b := []byte(s)
			j := (i + 1) % len(b)
			b[i], b[j] = b[j], b[i]
			holds(t, string(b))
		}
	}
}

// All short texts of some bytes: just those that the chapter's words let are deltas, and each was put just so.
func TestShort(t *testing.T) {
	const bytes = "\x00\x01\x02\x07\x08\x7f\x80\xc7\xc8"
	let, row := 0, []byte{}
	var down func(int)
	down = func(more int) {
		if holds(t, string(row)) {
			let++
		}
		if more == 0 {
			return
		}
		for i := range len(bytes) {
			row = append(row, bytes[i])
			down(more - 1)
			row = row[:len(row)-1]
		}
	}
	down(5)
	// An N takes one of 6 bytes, or one of 3 and then one of 5; a path's number the same 6 bytes, or \x80 or \xc7 and then \x01.
	ops, one, two, path, path2 := 3, 6, 3*5, 6, 2
	want := ops*(one+two+3*3*5) + path*ops*(one+two) + path2*ops*one + path*path*ops*one
	if let != want {
		t.Errorf("%d were let, not %d", let, want)
	}
}

// Texts by chance: pieces of deltas' bytes, changed, cut and put together, and any bytes.
func TestChance(t *testing.T) {
	r := rand.New(rand.NewSource(14))
	let := 0
	for range 60000 {
		b := []byte(written(anyDelta(r)))
		for range r.Intn(3) {
			b[r.Intn(len(b))] = byte(r.Intn(256))
		}
		switch r.Intn(4) {
		case 0:
			b = b[:r.Intn(len(b))]
		case 1:
			u := written(anyDelta(r))
			b = append(b[:r.Intn(len(b))], u[r.Intn(len(u)):]...)
		case 2:
			r.Read(b)
		}
		if holds(t, string(b)) {
			let++
		}
	}
	if let < 1000 {
		t.Errorf("%d were let", let)
	}
}

// Counts of more than 30, and of more than bytes are left.
func TestCounts(t *testing.T) {
	for n := range 301 {
		count := num(uint64(n))
		if ok := holds(t, count+full("\x00", n)+"\x01\x00"); ok != (n <= 30) {
			t.Errorf("%d numbers: %v", n, ok)
		}
		if ok := holds(t, count+full("\xc7\x01", n)+"\x01\x00"); ok != (n <= 30) {
			t.Errorf("%d numbers: %v", n, ok)
		}
		if n > 0 {
			none(t, count)
			none(t, count+full("\x01", n-1))
			none(t, count+full("\x01", n))
			none(t, count+full("\x01", n+1))
			none(t, count+full("\x01", n+3))
		}
	}
	for _, count := range []uint64{1 << 8, 1<<8 + 1, 1 << 16, 1 << 31, 1 << 32, 1<<32 + 1, 1 << 62, math.MaxInt, 1 << 63, 1<<63 + 1, math.MaxUint64 - 1, math.MaxUint64} {
		for _, behind := range []string{"", "\x01\x00", "\x00\x01\x00", full("\x01", 300)} {
			none(t, num(count)+behind)
		}
	}
}

// longer is a number in more groups than it needs.
func longer(s string, more int) string {
	b := []byte(s)
	b[len(b)-1] += 128
	return string(b) + full("\x80", more-1) + "\x00"
}

// Each number of a delta is told in as few groups as can be, and in no more than ten.
func TestGroups(t *testing.T) {
	for more := 1; more <= 12; more++ {
		none(t, longer("\x00", more)+"\x01\x00")
		none(t, longer("\x01", more)+"\x05\x01\x00")
		none(t, longer("\x1e", more)+full("\x05", 30)+"\x01\x00")
		for _, n := range []uint64{0, 1, 127, 128, 199} {
			none(t, "\x01"+longer(num(n), more)+"\x01\x00")
			none(t, "\x02\x00"+longer(num(n), more)+"\x01\x00")
			none(t, "\x02"+longer(num(n), more)+"\x00\x01\x00")
		}
		for _, n := range ints() {
			none(t, "\x00\x04"+longer(signed(n), more))
			none(t, "\x01\x03\x04"+longer(signed(n), more))
		}
		none(t, "\x00"+longer("\x01", more)+"\x00") // an Op is one byte
	}
}

// beyond are the bytes of numbers that are too great for 64 bits, or have no end.
func beyond() []string {
	l := []string{full("\x80", 9) + "\x02", full("\x80", 9) + "\x03", full("\xff", 9) + "\x02", full("\xff", 9) + "\x7f", full("\x80", 10) + "\x01", full("\xff", 10) + "\x01", full("\x80", 10), full("\xff", 10), full("\xff", 40)}
	for b := 3; b < 128; b++ {
		l = append(l, full("\x81", 9)+string([]byte{byte(b)}))
	}
	return l
}

// Numbers that are too great are none, whatever their lowest bits are.
func TestGreat(t *testing.T) {
	for _, x := range beyond() {
		none(t, x+"\x01\x00")
		none(t, x+"\x05\x01\x00")
		none(t, "\x01"+x+"\x01\x00")
		none(t, "\x02\x05"+x+"\x01\x00")
		none(t, "\x00\x04"+x)
		none(t, "\x01\x05\x04"+x)
	}
	for n := range uint64(1 << 12) {
		if ok := holds(t, "\x01"+num(n)+"\x01\x00"); ok != (n <= 199) {
			t.Errorf("%d in a path: %v", n, ok)
		}
	}
	for _, n := range append(strange(), 1<<31, 1<<62, 1<<32+199) {
		if n > 0 {
			none(t, "\x01"+num(uint64(n))+"\x01\x00")
		}
		none(t, "\x02\x00"+num(uint64(n))+"\x01\x00")
		none(t, "\x1e"+full("\x00", 29)+num(uint64(n))+"\x01\x00")
	}
}

// Operators that there are not: of 0, 8, and of all bytes that are none.
func TestOps(t *testing.T) {
	for op := range 256 {
		b := string([]byte{byte(op)})
		for _, x := range []struct{ ahead, behind string }{{"\x00", "\x00"}, {"\x00", "\x07"}, {"\x01\xc7\x01", "\x81\x01"}, {"\x1e" + full("\x02", 30), "\x05"}} {
			if ok := holds(t, x.ahead+b+x.behind); ok != (op >= 1 && op <= 7) {
				t.Errorf("Op %d: %v", op, ok)
			}
		}
	}
	none(t, "\x00\x00\x00")
	none(t, "\x00\x08\x00")
}

// Of deltas that may not be there are no bytes.
func TestGetWrong(t *testing.T) {
	for _, n := range strange() {
		none(t, written(api.Delta{Path: []int{n}, Op: 1}))
		none(t, written(api.Delta{Path: slices.Repeat([]int{n}, 30), Op: 4, N: n}))
	}
	for length := 31; length < 300; length++ {
		none(t, written(api.Delta{Path: make([]int, length), Op: 1}))
	}
	for _, op := range []int{0, 8, 9, 128, 255, -1} {
		none(t, written(api.Delta{Path: []int{1, 2}, Op: op, N: 3}))
	}
}

// Long bytes are no delta; the greatest ones, too, are refused.
func TestLong(t *testing.T) {
	for _, s := range []string{"\x00", "\x01", "\x07", "\x1e", "\x80", "\xff", "\x00\x01\x00", "\x02\xc7\x01\x00\x04\x01"} {
		none(t, full(s, 1<<20))
	}
}
