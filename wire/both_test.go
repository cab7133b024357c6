package wire_test

import (
	"math"
	"math/rand"
	"strings"
	"testing"

	"offshoot/api"
	"offshoot/wire"
)

// part is something that is written, and how it is read back.
type part struct {
	write func(*wire.Writer)
	read  call
	tells any
}

// byteOf, numOf, countOf, intOf, textOf and rawOf are parts of each kind. What has a bound is read with the least one that lets it.
func byteOf(b byte) part {
	return part{func(w *wire.Writer) { w.Byte(b) }, call{name: "Byte"}, b}
}

func numOf(n uint64) part {
	return part{func(w *wire.Writer) { w.Num(n) }, call{name: "Num"}, n}
}

func countOf(n int) part {
	return part{func(w *wire.Writer) { w.Num(uint64(n)) }, call{"Count", n}, n}
}

func intOf(n int) part {
	return part{func(w *wire.Writer) { w.Int(n) }, call{name: "Int"}, n}
}

func textOf(s string) part {
	return part{func(w *wire.Writer) { w.Text(s) }, call{"Text", len(s)}, s}
}

func rawOf(s string) part {
	return part{func(w *wire.Writer) { w.Raw(s) }, call{"Raw", len(s)}, s}
}

// edges are parts of each kind, with the least and the greatest numbers, and the empty text.
func edges() []part {
	l := []part{byteOf(0), byteOf(127), byteOf(128), byteOf(255)}
	for _, n := range numbers() {
		l = append(l, numOf(n), intOf(int(n)), countOf(int(n&math.MaxInt)))
	}
	for _, n := range []int{math.MinInt, math.MinInt + 1, -1, 0, 1, math.MaxInt - 1, math.MaxInt} {
		l = append(l, intOf(n), countOf(max(n, 0)))
	}
	for _, s := range []string{"", "a", "\x00", "\x80", "\xff\xff", "ab\xc3\xa4", strings.Repeat("\x80", 127), strings.Repeat("z", 128), strings.Repeat("\x00", 5000)} {
		l = append(l, textOf(s), rawOf(s))
	}
	return l
}

// write is the bytes of parts, and the place behind each one.
func write(l []part) (string, []int) {
	w := wire.New()
	var behind []int
	for _, p := range l {
		p.write(w)
		behind = append(behind, len(w.Bytes()))
	}
	return w.Bytes(), behind
}

// back reads parts back, and holds each against what was written.
func back(t *testing.T, l []part) {
	t.Helper()
	s, behind := write(l)
	r := wire.Of(s)
	for i, p := range l {
		if got := p.read.ask(r); got != p.tells || r.At() != behind[i] {
			t.Fatalf("%d: %v: %#v, at %d; not %#v, at %d", i, p.read, got, r.At(), p.tells, behind[i])
		}
		if e := r.End(); e != api.OK && e != api.ErrRest || (e == api.OK) != (behind[i] == len(s)) {
			t.Fatalf("%d: %v: the end is %v", i, p.read, e)
		}
	}
}

// What is written is read back: each part alone, and each behind each.
func TestBackInPairs(t *testing.T) {
	l := edges()
	for _, a := range l {
		back(t, []part{a})
	}
	for i := range l {
		for j := i % 7; j < len(l); j += 7 {
			back(t, []part{l[i], l[j]})
		}
	}
}

// What is written is read back, in the same order, in long rows too.
func TestBackInOrder(t *testing.T) {
	back(t, nil)
	back(t, edges())
	r := rand.New(rand.NewSource(3))
	for range 300 {
		l := edges()
		r.Shuffle(len(l), func(i, j int) { l[i], l[j] = l[j], l[i] })
		back(t, l[:r.Intn(60)])
	}
}

// What stands behind makes no difference to what is read.
func TestWhateverStandsBehind(t *testing.T) {
	for _, p := range edges() {
		s, behind := write([]part{p})
		for _, more := range []string{"\x00", "\x7f", "\x80\x01", "\xff", s + "a"} {
			r := wire.Of(s + more)
			if got := p.read.ask(r); got != p.tells || r.At() != behind[0] || r.End() != api.ErrRest {
				t.Fatalf("%v of %x: %#v, at %d, %v", p.read, s+more, got, r.At(), r.End())
			}
		}
	}
}

// What has a bound is not read by one that is less.
func TestBoundIsLess(t *testing.T) {
	for _, p := range edges() {
		if p.read.name != "Count" && p.read.name != "Text" {
			continue
		}
		s, _ := write([]part{p})
		c := call{p.read.name, p.read.arg - 1}
		r := wire.Of(s)
		if got := c.ask(r); got != c.nought() || r.At() != 0 || r.End() != api.ErrLarge {
			t.Fatalf("%v of %x: %#v, at %d, %v", c, s, got, r.At(), r.End())
		}
	}
}

// No read goes outside of what was given: of bytes that are cut just the parts that are whole are told, though the others stand right behind the cut.
func TestCut(t *testing.T) {
	l := []part{
		byteOf(7), numOf(300), countOf(128), intOf(math.MinInt), textOf("ab"), rawOf("cde"), textOf(""),
		numOf(math.MaxUint64), textOf(strings.Repeat("x", 130)), intOf(-65), byteOf(255), rawOf("\x80\x80"),
	}
	s, behind := write(l)
	for cut := range len(s) {
		r := wire.Of(s[:cut])
		at, wrong := 0, false
		for i, p := range l {
			want := p.tells
			if wrong = wrong || behind[i] > cut; wrong {
				want = p.read.nought()
			} else {
				at = behind[i]
			}
			if got := p.read.ask(r); got != want || r.At() != at {
				t.Fatalf("cut at %d: %d: %v: %#v, at %d; not %#v, at %d", cut, i, p.read, got, r.At(), want, at)
			}
		}
		if e := r.End(); e != api.ErrShort {
			t.Fatalf("cut at %d: %v", cut, e)
		}
	}
}
