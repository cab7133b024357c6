package container_test

import (
	"math"
	"math/rand"
	"slices"
	"strings"
	"testing"

	"offshoot/api"
	"offshoot/container"
)

func TestSealByHand(t *testing.T) {
	for s, l := range known() {
		if got, e := container.Seal(l); got != s || e != api.OK {
			t.Errorf("Seal(%x): %x, %v; not %x", l, got, e, s)
		}
	}
}

// A container is what the chapter's words say, and is told so again; the sections are as they were.
func TestSeal(t *testing.T) {
	for range 2 {
		for _, l := range lists() {
			m := slices.Clone(l)
			if s, e := container.Seal(m); s != sealed(l) || e != api.OK {
				t.Fatalf("%d sections, the first of type %d: %v, or another container", len(l), l[0].Type, e)
			}
			if !slices.Equal(l, m) {
				t.Fatalf("%d sections, the first of type %d: changed", len(l), l[0].Type)
			}
		}
	}
}

// typed are sections of these types, without data.
func typed(types ...int) []api.Section {
	var l []api.Section
	for _, n := range types {
		l = append(l, api.Section{Type: n})
	}
	return l
}

// row are types from one on, n of them.
func row(from, n int) []int {
	var l []int
	for i := range n {
		l = append(l, from+i)
	}
	return l
}

// unordered are lists that may not be sealed: none, too many, types outside, that fall or stand twice, at each place.
func unordered() [][]api.Section {
	ls := [][]api.Section{
		nil, {}, typed(row(1, 17)...), typed(row(1, 18)...), typed(row(239, 17)...), typed(row(1, 255)...), typed(row(1, 256)...), typed(row(-3, 17)...),
		typed(1, 3, 2), typed(3, 2, 1), typed(1, 2, 3, 1), typed(255, 1), typed(2, 1, 3), typed(0, 1), typed(255, 256), typed(-1, 1), typed(1, 257),
		typed(slices.Repeat([]int{7}, 16)...), typed(slices.Repeat([]int{1}, 100000)...),
	}
	for _, n := range []int{0, -1, -255, -256, 256, 257, 511, 512, 1<<8 + 1, 1 << 32, 1<<32 + 1, 1 << 62, math.MinInt, math.MinInt + 1, math.MaxInt} {
		ls = append(ls, typed(n))
		for at := range 16 {
			l := typed(row(1, 16)...)
			l[at].Type = n
			ls = append(ls, l)
		}
	}
	for at := 1; at < 16; at++ {
		twice, falls := typed(row(1, 16)...), typed(row(1, 16)...)
		twice[at].Type--
		falls[at].Type, falls[at-1].Type = falls[at-1].Type, falls[at].Type
		ls = append(ls, twice, falls)
	}
	return ls
}

// What is not in order is told so ahead of too many bytes; beside an error there is no container.
func TestSealUnordered(t *testing.T) {
	more := strings.Repeat("x", api.MaxBytes+1)
	for i, l := range unordered() {
		if s, e := container.Seal(l); s != "" || e != api.ErrOrder {
			t.Errorf("%d: %d sections: %v and %d bytes", i, len(l), e, len(s))
		}
		for at := range min(len(l), 20) {
			m := slices.Clone(l)
			m[at].Data = more
			if s, e := container.Seal(m); s != "" || e != api.ErrOrder {
				t.Errorf("%d: %d sections, much data at %d: %v and %d bytes", i, len(l), at, e, len(s))
			}
		}
	}
}

// full is a list of n sections whose container has just so many bytes: what is missing is at one place, the others have a few bytes.
func full(n, at, bytes int) []api.Section {
	l := typed(row(256-n, n)...)
	for i := range l {
		l[i].Data = strings.Repeat("f", i)
	}
	for range 3 { // the numbers in the index and the frame may grow with it
		l[at].Data = strings.Repeat("F", len(l[at].Data)+bytes-len(sealed(l)))
	}
	return l
}

// Just as many bytes as are let are sealed, and opened; not one more.
func TestMostBytes(t *testing.T) {
	for n := 1; n <= 16; n++ {
		for _, at := range []int{0, n / 2, n - 1} {
			l := full(n, at, api.MaxBytes)
			want := sealed(l)
			s, e := container.Seal(l)
			if s != want || len(s) != api.MaxBytes || e != api.OK {
				t.Fatalf("%d sections, the greatest at %d: %v, %d bytes", n, at, e, len(s))
			}
			opened(t, s, l)
			for i := range l {
				m := slices.Clone(l)
				m[i].Data += "x"
				if s, e := container.Seal(m); s != "" || e != api.ErrLarge {
					t.Fatalf("%d sections, one byte more at %d: %v, %d bytes", n, i, e, len(s))
				}
				refused(t, sealed(m), api.ErrLarge)
			}
		}
	}
}

// Too many bytes are told so, wherever they are: in one section, or in all of them.
func TestSealLarge(t *testing.T) {
	half, most := strings.Repeat("x", api.MaxBytes/2), strings.Repeat("x", api.MaxBytes)
	for i, l := range [][]api.Section{
		{{Type: 1, Data: most}},
		{{Type: 1, Data: most + "x"}},
		{{Type: 255, Data: most + most}},
		{{Type: 1, Data: half}, {Type: 2, Data: half}},
		{{Type: 1}, {Type: 2, Data: most + "x"}},
		{{Type: 1, Data: most + "x"}, {Type: 2, Data: most + "x"}, {Type: 3}},
		{{Type: 1, Data: most[:api.MaxBytes-32]}},
		{{Type: 1, Data: most[:api.MaxBytes-21]}},
	} {
		if s, e := container.Seal(l); s != "" || e != api.ErrLarge {
			t.Errorf("%d: %v, %d bytes", i, e, len(s))
		}
	}
	if s, e := container.Seal([]api.Section{{Type: 1, Data: most[:api.MaxBytes-33]}}); len(s) != api.MaxBytes || e != api.OK {
		t.Errorf("as many as are let: %v, %d bytes", e, len(s))
	}
}

// The chapter's example: 7 bytes, 6, 4, 4, and 8.
func TestExample(t *testing.T) {
	l := typed(1)
	s, e := container.Seal(l)
	if e != api.OK || len(s) != 29 || s[13:17] != "\x01\x01\x07\x06" || container.Index(l) != "\x01\x01\x07\x06" {
		t.Errorf("%x, %v", s, e)
	}
}

// An index knows no error: of each list it tells what the chapter's words say, and the list is as it was.
func TestIndex(t *testing.T) {
	more := strings.Repeat("x", api.MaxBytes+1)
	ls := append(lists(), unordered()...)
	ls = append(ls, []api.Section{{Type: -7, Data: more}, {Type: 300, Data: more}, {Type: 0}, {Type: math.MaxInt, Data: "a"}})
	r := rand.New(rand.NewSource(2))
	for range 200 {
		var l []api.Section
		for range r.Intn(40) {
			l = append(l, api.Section{Type: int(r.Uint64()) >> r.Intn(64), Data: text(r, r.Intn(400))})
		}
		ls = append(ls, l)
	}
	for _, l := range ls {
		m := slices.Clone(l)
		if s, want := container.Index(m), partsOf(l).index; s != want {
			t.Fatalf("%d sections: %.100x, not %.100x", len(l), s, want)
		}
		if !slices.Equal(l, m) {
			t.Fatalf("%d sections: changed", len(l))
		}
	}
}

func TestIndexByHand(t *testing.T) {
	full := strings.Repeat("\xff", 9) + "\x01"
	for s, l := range map[string][]api.Section{
		"\x00":                                         nil,
		"\x01\x00\x07\x06":                             typed(0),
		"\x01\x80\x02\x07\x06":                         typed(256),
		"\x01" + full + "\x07\x06":                     typed(-1),
		"\x02\x01\x07\x06\x01\x0d\x06":                 typed(1, 1),
		"\x02\x09\x07\x08\x03\x0f\x09":                 {{Type: 9, Data: "ab"}, {Type: 3, Data: "abc"}},
		"\x02\x01\x07\x80\x01\x02\x87\x01+":            {{Type: 1, Data: strings.Repeat("x", 122)}, {Type: 2, Data: strings.Repeat("x", 37)}},
		"\x02\x01\x07\x87\x80\x40\x02\x8e\x80\x40\x06": {{Type: 1, Data: strings.Repeat("x", 1<<20-1)}, {Type: 2}},
	} {
		if got := container.Index(l); got != s {
			t.Errorf("%d sections: %x, not %x", len(l), got, s)
		}
	}
}
