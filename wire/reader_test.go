package wire_test

import (
	"math"
	"math/rand"
	"strings"
	"testing"

	"offshoot/api"
	"offshoot/leb"
	"offshoot/wire"
	"offshoot/zigzag"
)

// numbers are the edges, 0 and 2^64 - 1 and those around each power of two, and more by chance of each length.
func numbers() []uint64 {
	l := []uint64{0, math.MaxUint64}
	r := rand.New(rand.NewSource(1))
	for k := range 64 {
		l = append(l, 1<<k-1, 1<<k, 1<<k+1, r.Uint64()>>k, -(r.Uint64() >> k))
	}
	return l
}

// call is one of a reader's calls, and what it is asked with.
type call struct {
	name string
	arg  int
}

// calls are all of a reader's calls that read, with ordinary arguments and the edges.
func calls() []call {
	l := []call{{name: "Byte"}, {name: "Num"}, {name: "Int"}}
	for _, arg := range []int{math.MinInt, -1, 0, 1, 2, 3, 126, 127, 128, 300, math.MaxInt32, math.MaxInt - 1, math.MaxInt} {
		l = append(l, call{"Count", arg}, call{"Text", arg}, call{"Raw", arg})
	}
	return l
}

// ask is what a reader tells, asked by a call.
func (c call) ask(r *wire.Reader) any {
	switch c.name {
	case "Byte":
		return r.Byte()
	case "Num":
		return r.Num()
	case "Count":
		return r.Count(c.arg)
	case "Int":
		return r.Int()
	case "Text":
		return r.Text(c.arg)
	}
	return r.Raw(c.arg)
}

// nought is what a call tells, if it can't be so.
func (c call) nought() any {
	switch c.name {
	case "Byte":
		return byte(0)
	case "Num":
		return uint64(0)
	case "Count", "Int":
		return 0
	}
	return ""
}

// words is a reader by the chapter's words, reckoned apart from the package: what is left, and never more, is what it looks at.
type words struct {
	left  string
	at    int
	wrong api.Errno
}

// ask is what the chapter's words tell, asked by a call.
func (m *words) ask(c call) any {
	if m.wrong != api.OK {
		return c.nought()
	}
	x, size, e := m.look(c)
	if e != api.OK {
		m.wrong = e
		return c.nought()
	}
	m.left, m.at = m.left[size:], m.at+size
	return x
}

// look is what stands at the place, how many bytes it has, and the first of the call's errors that is so.
func (m *words) look(c call) (any, int, api.Errno) {
	n, size, e := leb.Get(m.left, 0)
	large := c.arg < 0 || n > uint64(c.arg)
	switch c.name {
	case "Byte":
		if m.left == "" {
			return nil, 0, api.ErrShort
		}
		return m.left[0], 1, api.OK
	case "Num":
		return n, size, e
	case "Int":
		z, size, e := zigzag.Get(m.left, 0)
		return z, size, e
	case "Raw":
		switch {
		case c.arg < 0:
			return nil, 0, api.ErrArg
		case len(m.left) < c.arg:
			return nil, 0, api.ErrShort
		}
		return m.left[:c.arg], c.arg, api.OK
	}
	switch {
	case e != api.OK:
		return nil, 0, e
	case large:
		return nil, 0, api.ErrLarge
	case c.name == "Count":
		return int(n), size, api.OK
	case n > uint64(len(m.left)-size):
		return nil, 0, api.ErrShort
	}
	return m.left[size : size+int(n)], size + int(n), api.OK
}

// end is what the chapter's words tell of the end.
func (m *words) end() api.Errno {
	switch {
	case m.wrong != api.OK:
		return m.wrong
	case m.left != "":
		return api.ErrRest
	}
	return api.OK
}

// hold holds a reader of a text against the chapter's words, call by call.
func hold(t *testing.T, s string, l ...call) {
	t.Helper()
	r, m := wire.Of(s), &words{left: s}
	for i, c := range l {
		x, w := c.ask(r), m.ask(c)
		if x != w || r.At() != m.at || r.End() != m.end() {
			t.Fatalf("%x, asked %v: call %d: %#v, at %d, %v; not %#v, at %d, %v", s, l, i, x, r.At(), r.End(), w, m.at, m.end())
		}
	}
}

func TestReadByHand(t *testing.T) {
	r := wire.Of("\x07\xac\x02\x05\x03\x02ab\x00cde\xff\xff\xff\xff\xff\xff\xff\xff\xff\x01\x09")
	for i, x := range []struct {
		call
		tells any
		at    int
	}{
		{call{name: "Byte"}, byte(7), 1},
		{call{name: "Num"}, uint64(300), 3},
		{call{"Count", 5}, 5, 4},
		{call{name: "Int"}, -2, 5},
		{call{"Text", 2}, "ab", 8},
		{call{"Text", 0}, "", 9},
		{call{"Raw", 0}, "", 9},
		{call{"Raw", 3}, "cde", 12},
		{call{name: "Int"}, math.MinInt, 22},
	} {
		if got := x.ask(r); got != x.tells || r.At() != x.at || r.End() != api.ErrRest {
			t.Errorf("%d: %v: %#v, at %d, %v; not %#v, at %d", i, x.call, got, r.At(), r.End(), x.tells, x.at)
		}
	}
	if b := r.Byte(); b != 9 || r.At() != 23 || r.End() != api.OK || r.Raw(0) != "" || r.End() != api.OK {
		t.Errorf("at the end: %d, at %d, %v", b, r.At(), r.End())
	}
}

func TestNewReader(t *testing.T) {
	for s, e := range map[string]api.Errno{"": api.OK, "\x00": api.ErrRest, "\xff": api.ErrRest, "ab": api.ErrRest} {
		if r := wire.Of(s); r.At() != 0 || r.End() != e {
			t.Errorf("%x: at %d, %v, not %v", s, r.At(), r.End(), e)
		}
	}
}

// wrongs are texts, how many bytes of each are read first, a call that can't be so then, and the error.
func wrongs() []struct {
	s     string
	ahead int
	call
	e api.Errno
} {
	full, cut := strings.Repeat("\xff", 9), strings.Repeat("\x80", 9)
	return []struct {
		s     string
		ahead int
		call
		e api.Errno
	}{
		{"", 0, call{name: "Byte"}, api.ErrShort},
		{"a", 1, call{name: "Byte"}, api.ErrShort},
		{"", 0, call{name: "Num"}, api.ErrShort},
		{"a\x80", 1, call{name: "Num"}, api.ErrShort},
		{cut, 0, call{name: "Num"}, api.ErrShort},
		{cut + "\x00", 0, call{name: "Num"}, api.ErrNumber},
		{full + "\x02", 0, call{name: "Num"}, api.ErrNumber},
		{"a\x80\x00b", 1, call{name: "Num"}, api.ErrNumber},
		{"", 0, call{name: "Int"}, api.ErrShort},
		{"\x00\xff", 1, call{name: "Int"}, api.ErrShort},
		{"\xff\x00", 0, call{name: "Int"}, api.ErrNumber},
		{full + "\x7f", 0, call{name: "Int"}, api.ErrNumber},
		{"", 0, call{"Count", 9}, api.ErrShort},
		{"", 0, call{"Count", -1}, api.ErrShort},
		{"\x80\x00", 0, call{"Count", 0}, api.ErrNumber},
		{"\x80\x00", 0, call{"Count", -1}, api.ErrNumber},
		{"\x01", 0, call{"Count", 0}, api.ErrLarge},
		{"\x00", 0, call{"Count", -1}, api.ErrLarge},
		{"\x00", 0, call{"Count", math.MinInt}, api.ErrLarge},
		{"a\xac\x02", 1, call{"Count", 299}, api.ErrLarge},
		{full[1:] + "\x7f", 0, call{"Count", math.MaxInt - 1}, api.ErrLarge},
		{cut + "\x01", 0, call{"Count", math.MaxInt}, api.ErrLarge},
		{full + "\x01", 0, call{"Count", math.MaxInt}, api.ErrLarge},
		{full + "\x01", 0, call{"Count", -1}, api.ErrLarge},
		{"", 0, call{"Text", 9}, api.ErrShort},
		{"", 0, call{"Text", -1}, api.ErrShort},
		{"a\x80", 1, call{"Text", -1}, api.ErrShort},
		{"\x81\x00a", 0, call{"Text", -1}, api.ErrNumber},
		{"\x81\x00a", 0, call{"Text", 1}, api.ErrNumber},
		{"\x00", 0, call{"Text", -1}, api.ErrLarge},
		{"\x02ab", 0, call{"Text", 1}, api.ErrLarge},
		{"\x02ab", 0, call{"Text", -2}, api.ErrLarge},
		{"\x02", 0, call{"Text", 1}, api.ErrLarge},
		{"\x03ab", 0, call{"Text", 2}, api.ErrLarge},
		{"\x03ab", 0, call{"Text", 3}, api.ErrShort},
		{"x\x03ab", 1, call{"Text", math.MaxInt}, api.ErrShort},
		{"\x01", 0, call{"Text", 1}, api.ErrShort},
		{full[1:] + "\x7fab", 0, call{"Text", math.MaxInt}, api.ErrShort},
		{cut + "\x01ab", 0, call{"Text", math.MaxInt}, api.ErrLarge},
		{full + "\x01ab", 0, call{"Text", math.MaxInt}, api.ErrLarge},
		{"ab", 0, call{"Raw", -1}, api.ErrArg},
		{"ab", 1, call{"Raw", -1}, api.ErrArg},
		{"", 0, call{"Raw", -1}, api.ErrArg},
		{"ab", 2, call{"Raw", math.MinInt}, api.ErrArg},
		{"ab", 0, call{"Raw", 3}, api.ErrShort},
		{"ab", 1, call{"Raw", 2}, api.ErrShort},
		{"ab", 2, call{"Raw", 1}, api.ErrShort},
		{"ab", 2, call{"Raw", math.MaxInt}, api.ErrShort},
		{"ab", 1, call{"Raw", math.MaxInt - 1}, api.ErrShort},
	}
}

// What can't be so is told as nought, and the place stays.
func TestWrong(t *testing.T) {
	for i, x := range wrongs() {
		r := wire.Of(x.s)
		if r.Raw(x.ahead) != x.s[:x.ahead] {
			t.Fatalf("%d: what stands ahead", i)
		}
		if got := x.ask(r); got != x.nought() || r.At() != x.ahead || r.End() != x.e {
			t.Errorf("%d: %x, %v: %#v, at %d, %v; not %v", i, x.s, x.call, got, r.At(), r.End(), x.e)
		}
	}
}

// Who is wrong once reads no more, though what stands there could be read, and stays wrong by the first error.
func TestWrongOnce(t *testing.T) {
	for i, x := range wrongs() {
		s := x.s
		if x.e != api.ErrShort {
			s += "\x01\x02\x03" // so that there is something that might be read
		}
		for _, next := range calls() {
			r := wire.Of(s)
			r.Raw(x.ahead)
			x.ask(r)
			for range 2 {
				if got := next.ask(r); got != next.nought() || r.At() != x.ahead || r.End() != x.e {
					t.Fatalf("%d: %x, %v, then %v: %#v, at %d, %v; not %v", i, s, x.call, next, got, r.At(), r.End(), x.e)
				}
			}
		}
	}
}

// All texts of up to three bytes that matter are read by all calls, two in a row, as the chapter's words say.
func TestAllShortTexts(t *testing.T) {
	texts := []string{""}
	for at := 0; at < len(texts) && len(texts[at]) < 3; at++ {
		for _, b := range []byte{0, 1, 2, 3, 127, 128, 130, 255} {
			texts = append(texts, texts[at]+string([]byte{b}))
		}
	}
	for _, s := range texts {
		for _, a := range calls() {
			for _, b := range calls() {
				hold(t, s, a, b)
			}
		}
	}
}

// Every call ends and none panics, whatever the text is and the arguments; and it tells the same again.
func TestAnyArguments(t *testing.T) {
	r := rand.New(rand.NewSource(2))
	l := calls()
	for range 30000 {
		b := make([]byte, r.Intn(40))
		for i := range b {
			b[i] = byte(r.Intn(256))
			if r.Intn(2) > 0 {
				b[i] %= 5
			}
		}
		row := make([]call, r.Intn(12))
		for i := range row {
			row[i] = l[r.Intn(len(l))]
			if r.Intn(4) == 0 {
				row[i].arg = int(r.Uint64()) >> r.Intn(64)
			}
		}
		hold(t, string(b), row...)
		hold(t, string(b), row...)
	}
}

// To ask for the place or the end changes neither.
func TestAskingChangesNothing(t *testing.T) {
	r := wire.Of("\x01ab")
	for range 3 {
		if r.At() != 0 || r.End() != api.ErrRest {
			t.Errorf("at %d, %v", r.At(), r.End())
		}
	}
	if s := r.Text(1); s != "a" || r.End() != api.ErrRest || r.Byte() != 'b' || r.End() != api.OK {
		t.Errorf("%q, at %d, %v", s, r.At(), r.End())
	}
}

// Readers of one text are apart from each other.
func TestReadersAreApart(t *testing.T) {
	s := "\x01\x02\x03"
	a, b := wire.Of(s), wire.Of(s)
	a.Byte()
	a.Raw(-1)
	if a.At() != 1 || a.End() != api.ErrArg || b.At() != 0 || b.End() != api.ErrRest || b.Raw(3) != s || b.End() != api.OK {
		t.Errorf("at %d, %v; at %d, %v", a.At(), a.End(), b.At(), b.End())
	}
}
