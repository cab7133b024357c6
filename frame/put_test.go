package frame_test

import (
	"encoding/binary"
	"hash/crc32"
	"math"
	"math/rand"
	"strings"
	"testing"

	"offshoot/api"
	"offshoot/frame"
)

// known are frames written out by hand, their sums known from elsewhere, and the section of each.
func known() map[string]api.Section {
	xs := func(n int) api.Section { return api.Section{Type: 3, Data: strings.Repeat("x", n)} }
	return map[string]api.Section{
		"\x00\x00\xff\x12\xd9\x41":                         {},
		"\x01\x00\xbe\x23\xc2\x58":                         {Type: 1},
		"\xff\x00\x8d\xef\xfd\xd2":                         {Type: 255},
		"\x07\x03abc\x33\x1c\xd2\xac":                      {Type: 7, Data: "abc"},
		"\xff\x02\xff\xff\x7c\x1f\xe3\x42":                 {Type: 255, Data: "\xff\xff"},
		"\x02\x04\x00\x00\x00\x00\x68\xa6\x8a\x09":         {Type: 2, Data: "\x00\x00\x00\x00"},
		"\x03\x7f" + xs(127).Data + "\xd9\xb6\x9c\xb2":     xs(127),
		"\x03\x80\x01" + xs(128).Data + "\x17\x90\x1b\xf8": xs(128),
		"\x03\xac\x02" + xs(300).Data + "\x12\xd7\x59\xea": xs(300),
	}
}

// little is a sum's four bytes behind a text, told by another program.
func little(s string) string {
	return string(binary.LittleEndian.AppendUint32(nil, crc32.ChecksumIEEE([]byte(s))))
}

// number is a number's bytes, told by another program.
func number(n uint64) string { return string(binary.AppendUvarint(nil, n)) }

// told is a frame by the chapter's words, reckoned apart from the package, whatever its type and its data are.
func told(x api.Section) string {
	s := string([]byte{byte(x.Type & 255)}) + number(uint64(len(x.Data))) + x.Data
	return s + little(s)
}

// text is a text of n bytes by chance.
func text(r *rand.Rand, n int) string {
	b := make([]byte, n)
	r.Read(b)
	return string(b)
}

// sections are ordinary ones and the edges: each type, no data, all lengths up to 40, those at which the number has a byte more, as many bytes as are let, and data that are frames themselves.
func sections() []api.Section {
	var l []api.Section
	for i := range 256 {
		l = append(l, api.Section{Type: i}, api.Section{Type: 255 - i, Data: string([]byte{byte(i)})})
	}
	r := rand.New(rand.NewSource(1))
	for n := range 40 {
		l = append(l, api.Section{Type: n, Data: text(r, n)}, api.Section{Data: strings.Repeat("\x00", n)}, api.Section{Type: 255, Data: strings.Repeat("\xff", n)})
	}
	for _, n := range []int{127, 128, 129, 255, 256, 300, 16383, 16384, 16385, api.MaxBytes - 1, api.MaxBytes} {
		l = append(l, api.Section{Type: n % 256, Data: text(r, n)})
	}
	for s := range known() {
		l = append(l, api.Section{Type: 9, Data: s}, api.Section{Type: 128, Data: s + s})
	}
	return l
}

func TestPutByHand(t *testing.T) {
	for s, x := range known() {
		if got, e := frame.Put(x); got != s || e != api.OK {
			t.Errorf("Put(%x): %x, %v; not %x", x, got, e, s)
		}
		if got := frame.Head(x); got != s[:len(s)-len(x.Data)-4] {
			t.Errorf("Head(%x): %x", x, got)
		}
	}
}

// A frame is what the chapter's words say, and is told so again.
func TestPut(t *testing.T) {
	for range 2 {
		for _, x := range sections() {
			if s, e := frame.Put(x); s != told(x) || e != api.OK {
				t.Fatalf("type %d, %d bytes: %v, or another frame", x.Type, len(x.Data), e)
			}
		}
	}
}

// A type outside is told ahead of too much data; beside an error there is no frame.
func TestPutWrong(t *testing.T) {
	most := strings.Repeat("x", api.MaxBytes)
	more := most + "x"
	for i, x := range []struct {
		api.Section
		e api.Errno
	}{
		{api.Section{Type: -1}, api.ErrArg},
		{api.Section{Type: 256}, api.ErrArg},
		{api.Section{Type: 257, Data: "a"}, api.ErrArg},
		{api.Section{Type: -255, Data: "a"}, api.ErrArg},
		{api.Section{Type: 1 << 32}, api.ErrArg},
		{api.Section{Type: math.MinInt}, api.ErrArg},
		{api.Section{Type: math.MaxInt}, api.ErrArg},
		{api.Section{Type: 256, Data: most}, api.ErrArg},
		{api.Section{Type: -1, Data: more}, api.ErrArg},
		{api.Section{Type: 256, Data: more}, api.ErrArg},
		{api.Section{Data: more}, api.ErrLarge},
		{api.Section{Type: 255, Data: more}, api.ErrLarge},
		{api.Section{Type: 1, Data: more + more}, api.ErrLarge},
	} {
		if s, e := frame.Put(x.Section); s != "" || e != x.e {
			t.Errorf("%d: type %d, %d bytes: %v and %d bytes, not %v", i, x.Type, len(x.Data), e, len(s), x.e)
		}
	}
}

// A head knows no error: of a type it has the lowest eight bits, and it counts data of any length.
func TestHead(t *testing.T) {
	for _, n := range []int{0, 1, 127, 128, 255, 300, 16383, 16384, api.MaxBytes, api.MaxBytes + 1, 1 << 21} {
		data := strings.Repeat("\x91", n)
		for typ, b := range map[int]byte{
			0: 0, 1: 1, 127: 127, 128: 128, 255: 255, 256: 0, 257: 1, 1<<32 + 5: 5, -1: 255, -2: 254, -256: 0, -257: 255, math.MinInt: 0, math.MaxInt: 255,
		} {
			if h := frame.Head(api.Section{Type: typ, Data: data}); h != string([]byte{b})+number(uint64(n)) {
				t.Errorf("type %d, %d bytes: %x", typ, n, h)
			}
		}
	}
}
