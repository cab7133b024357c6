package frame_test

import (
	"encoding/binary"
	"math"
	"math/rand"
	"strings"
	"testing"

	"offshoot/api"
	"offshoot/frame"
	"offshoot/leb"
)

// words is Get by the chapter's words, reckoned apart from the package: the errors in their order, then the section.
func words(s string, at int) (api.Section, int, api.Errno) {
	if at < 0 || at > len(s) {
		return api.Section{}, at, api.ErrArg
	}
	if at == len(s) {
		return api.Section{}, at, api.ErrShort
	}
	n, from, e := leb.Get(s, at+1)
	switch {
	case e != api.OK:
		return api.Section{}, at, e
	case n > 1048576:
		return api.Section{}, at, api.ErrLarge
	case uint64(len(s)-from) < n+4:
		return api.Section{}, at, api.ErrShort
	}
	to := from + int(n)
	if little(s[at:to]) != s[to:to+4] {
		return api.Section{}, at, api.ErrSum
	}
	return api.Section{Type: int(s[at]), Data: s[from:to]}, to + 4, api.OK
}

// hold holds Get against the chapter's words; and what is got was put just so.
func hold(t *testing.T, s string, at int) {
	t.Helper()
	x, to, e := frame.Get(s, at)
	if y, behind, want := words(s, at); x != y || to != behind || e != want {
		t.Fatalf("Get(%x, %d): %x, %d, %v; not %x, %d, %v", s, at, x, to, e, y, behind, want)
	}
	if e != api.OK {
		return
	}
	if w, e := frame.Put(x); w != s[at:to] || e != api.OK {
		t.Fatalf("Get(%x, %d): %x, which is put as %x, %v", s, at, x, w, e)
	}
}

// got holds Get against a section whose frame must stand at a place.
func got(t *testing.T, s string, at int, x api.Section) {
	t.Helper()
	behind := at + len(told(x))
	if y, to, e := frame.Get(s, at); y != x || to != behind || e != api.OK {
		t.Fatalf("type %d, %d bytes, at %d of %d: type %d, %d bytes, to %d, %v", x.Type, len(x.Data), at, len(s), y.Type, len(y.Data), to, e)
	}
}

// refused holds Get against an error that it must tell, the zero section and the place as it was beside it.
func refused(t *testing.T, s string, at int, want api.Errno) {
	t.Helper()
	if x, to, e := frame.Get(s, at); x != (api.Section{}) || to != at || e != want {
		t.Fatalf("Get of %d bytes (%.20x) at %d: type %d, %d bytes, to %d, %v; not %v", len(s), s, at, x.Type, len(x.Data), to, e, want)
	}
}

func TestGetByHand(t *testing.T) {
	for s, x := range known() {
		got(t, s, 0, x)
		got(t, "ab"+s+"c", 2, x)
	}
}

// What is put is got back, whatever stands ahead of it and behind it.
func TestBack(t *testing.T) {
	r := rand.New(rand.NewSource(2))
	around := []string{"", "\x00", "\xff", "\x01\x00", "\x80\x80", "\x01\x00\xbe\x23\xc2\x58", text(r, 50), strings.Repeat("\x80", 12)}
	for _, x := range sections() {
		s, e := frame.Put(x)
		if e != api.OK {
			t.Fatalf("type %d, %d bytes: %v", x.Type, len(x.Data), e)
		}
		for i, ahead := range around {
			got(t, ahead+s, len(ahead), x)
			got(t, s+ahead, 0, x)
			got(t, ahead+s+around[len(around)-1-i], len(ahead), x)
		}
	}
}

// Frames that stand one behind the other are got back in their order, each at the place behind the one ahead.
func TestBackInARow(t *testing.T) {
	l := sections()
	var b strings.Builder
	for _, x := range l {
		s, _ := frame.Put(x)
		b.WriteString(s)
	}
	s, at := b.String(), 0
	for _, x := range l {
		got(t, s, at, x)
		_, at, _ = frame.Get(s, at)
	}
	if at != len(s) {
		t.Errorf("at the end: %d of %d", at, len(s))
	}
	refused(t, s, at, api.ErrShort)
}

// A place outside is told ahead of all that may be wrong with the bytes; at the end there is a place, and no byte.
func TestPlaces(t *testing.T) {
	whole := told(api.Section{Type: 1, Data: "abc"})
	for _, s := range []string{"", "\x00", "\x01\x80\x00", "\x01\x81\x80\x40", whole, whole + whole} {
		for _, at := range []int{math.MinInt, math.MinInt + 1, -len(s) - 1, -2, -1, len(s) + 1, len(s) + 2, len(s) + 6, 1 << 31, math.MaxInt - 1, math.MaxInt} {
			refused(t, s, at, api.ErrArg)
		}
		refused(t, s, len(s), api.ErrShort)
	}
}

// No read goes outside of what was given: bytes that are cut have no frame, though what was cut off stands right behind.
func TestCut(t *testing.T) {
	for s, x := range known() {
		for _, ahead := range []string{"", "ab"} {
			all := ahead + s + "\x00\x00\x00\x00"
			for cut := range len(s) {
				refused(t, all[:len(ahead)+cut], len(ahead), api.ErrShort)
			}
			got(t, all[:len(ahead)+len(s)], len(ahead), x)
		}
	}
}

// whole is bytes with their sum, so that nothing but what stands in them can be wrong.
func whole(s string) string { return s + little(s) }

// Each error is told at the first place where it is so.
func TestGetWrong(t *testing.T) {
	full, cut := strings.Repeat("\xff", 9), strings.Repeat("\x80", 9)
	for i, x := range []struct {
		s string
		e api.Errno
	}{
		{"\x01", api.ErrShort},
		{"\x01\x80", api.ErrShort},
		{"\x01" + cut, api.ErrShort},
		{"\x01" + full, api.ErrShort},
		{"\x01\x80\x00", api.ErrNumber},
		{whole("\x01\x80\x00"), api.ErrNumber},
		{whole("\x01\x83\x00abc"), api.ErrNumber},
		{whole("\x01\x83\x80\x00abc"), api.ErrNumber},
		{"\x01" + cut + "\x00", api.ErrNumber},
		{"\x01" + full + "\x02", api.ErrNumber},
		{"\x01" + full + "\xff", api.ErrNumber},
		{"\x01\x81\x80\xc0\x00", api.ErrNumber},
		{"\x01\x81\x80\x40", api.ErrLarge},
		{whole("\x01\x81\x80\x40"), api.ErrLarge},
		{"\x01\x80\x80\x80\x01", api.ErrLarge},
		{"\x01\x80\x80\x80\x80\x10", api.ErrLarge},
		{whole("\x01\x80\x80\x80\x80\x10"), api.ErrLarge},
		{"\x01" + cut + "\x01", api.ErrLarge},
		{whole("\x01" + cut + "\x01"), api.ErrLarge},
		{"\x01" + full[1:] + "\x7f", api.ErrLarge},
		{"\x01" + full + "\x01", api.ErrLarge},
		{whole("\x01" + full + "\x01"), api.ErrLarge},
		{"\x01\x80\x80\x40", api.ErrShort},
		{whole("\x01\x80\x80\x40"), api.ErrShort},
		{"\x01\x00", api.ErrShort},
		{"\x01\x00abc", api.ErrShort},
		{"\x01\x01abcd", api.ErrShort},
		{whole("\x01\x04abc"), api.ErrShort},
		{whole("\x01\x07abc"), api.ErrShort},
		{"\x01\x00abcd", api.ErrSum},
		{"\x01\x00\x00\x00\x00\x00", api.ErrSum},
		{"\x01\x01abcde", api.ErrSum},
		{"\x01\x02" + whole("abc")[1:], api.ErrSum},
		{whole("\x01\x02abc"), api.ErrSum},
		{whole("\x01\x03abc") + "d", api.OK},
	} {
		if _, _, e := frame.Get(x.s, 0); e != x.e {
			t.Errorf("%d: %x: %v, not %v", i, x.s, e, x.e)
		}
		for _, ahead := range []string{"", "\x00", "\xff\xff"} {
			hold(t, ahead+x.s, len(ahead))
		}
	}
}

// Just as many bytes as are let are got, and not one more, though their sum is right.
func TestMostBytes(t *testing.T) {
	most := api.Section{Type: 4, Data: strings.Repeat("m", api.MaxBytes)}
	more := api.Section{Type: 4, Data: most.Data + "m"}
	got(t, told(most), 0, most)
	got(t, "?"+told(most)+"?", 1, most)
	refused(t, told(more), 0, api.ErrLarge)
	refused(t, told(most)[:len(told(most))-1], 0, api.ErrShort)
	refused(t, told(more)[:10], 0, api.ErrLarge)
}

// sums are the tails that one who reckons or writes the sum otherwise would put behind a head and data.
func sums(x api.Section) []string {
	head := frame.Head(x)
	right := []byte(little(head + x.Data))
	sum := binary.LittleEndian.Uint32(right)
	swapped := string(binary.BigEndian.AppendUint32(nil, sum))
	unturned := string(binary.LittleEndian.AppendUint32(nil, ^sum))
	return []string{
		little(x.Data), little(head), little(head[1:] + x.Data), little(x.Data + head), little("\x00" + head + x.Data),
		swapped, unturned, little(""), little(string(right)), little(head + x.Data + string(right)),
	}
}

// The sum goes over head and data both, from the frame's first byte on, and over nothing that stands ahead.
func TestWrongSums(t *testing.T) {
	for _, x := range []api.Section{{Type: 7, Data: "abc"}, {Type: 255, Data: "offshoot"}, {Type: 1, Data: strings.Repeat("\x00", 200)}} {
		s := frame.Head(x) + x.Data
		for _, sum := range sums(x) {
			refused(t, s+sum, 0, api.ErrSum)
			refused(t, "\x07"+s+sum, 1, api.ErrSum)
		}
		refused(t, "\x07"+s+little("\x07"+s), 1, api.ErrSum)
		got(t, "\x07"+s+little(s), 1, x)
	}
}

// All short texts are got as the chapter's words say, at all places, as they are and with their sum.
func TestAllShortTexts(t *testing.T) {
	texts := []string{""}
	for at := 0; at < len(texts) && len(texts[at]) < 5; at++ {
		for _, b := range []byte{0, 1, 2, 64, 127, 128, 255} {
			texts = append(texts, texts[at]+string([]byte{b}))
		}
	}
	for _, s := range texts {
		for at := range len(s) + 3 {
			hold(t, s, at-1)
			hold(t, whole(s), at-1)
		}
	}
}

// Of a frame that is changed at one byte, made longer or shorter by one, Get tells what the chapter's words say.
func TestOneByteChanged(t *testing.T) {
	for _, x := range []api.Section{{}, {Type: 1, Data: "a"}, {Type: 200, Data: "offshoot"}, {Type: 7, Data: strings.Repeat("\x00", 130)}} {
		s := told(x)
		for i := range len(s) {
			for b := range 256 {
				hold(t, s[:i]+string([]byte{byte(b)})+s[i+1:], 0)
				hold(t, s[:i]+string([]byte{byte(b)})+s[i:], 0)
			}
			hold(t, s[:i]+s[i+1:], 0)
		}
	}
}

// Every call ends and none panics, whatever the bytes are and the place; and it tells the same again.
func TestAnyArguments(t *testing.T) {
	r := rand.New(rand.NewSource(3))
	for range 30000 {
		s := text(r, r.Intn(12))
		for range r.Intn(4) {
			s += told(api.Section{Type: int(r.Uint64() >> r.Intn(64)), Data: text(r, r.Intn(9))}) + text(r, r.Intn(2))
		}
		for at := range len(s) + 1 {
			hold(t, s, at)
		}
		for _, at := range []int{r.Intn(len(s) + 1), int(r.Uint64()) >> r.Intn(64)} {
			hold(t, s, at)
			hold(t, s, at)
		}
	}
}
