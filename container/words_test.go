package container_test

import (
	"encoding/binary"
	"hash/crc32"
	"math/rand"
	"slices"
	"strings"
	"testing"

	"offshoot/api"
	"offshoot/container"
	"offshoot/frame"
)

// known are containers written out by hand, their sums known from elsewhere, and the sections of each.
func known() map[string][]api.Section {
	var all []api.Section
	for i := range 16 {
		all = append(all, api.Section{Type: i + 1})
	}
	x, y := strings.Repeat("x", 127), strings.Repeat("x", 128)
	return map[string][]api.Section{
		"MUTARC\x01" + "\x01\x00\xbe\x23\xc2\x58" + "\x01\x01\x07\x06" + "\xbc\xe1\x18\x3e" + "\x0d\x00\x00\x00END.":     {{Type: 1}},
		"MUTARC\x01" + "\xff\x00\x8d\xef\xfd\xd2" + "\x01\xff\x01\x07\x06" + "\x99\x81\xa7\x82" + "\x0d\x00\x00\x00END.": {{Type: 255}},
		"MUTARC\x01" + "\x80\x00\xb4\x8a\x5a\x7a" + "\x01\x80\x01\x07\x06" + "\x53\x31\xfb\xb1" + "\x0d\x00\x00\x00END.": {{Type: 128}},
		"MUTARC\x01" + "\x01\x03abc\x93\xe9\x92\x23" + "\xff\x02\xff\xff\x7c\x1f\xe3\x42" +
			"\x02\x01\x07\x09\xff\x01\x10\x08" + "\xcc\x77\xbb\x0a" + "\x18\x00\x00\x00END.": {{Type: 1, Data: "abc"}, {Type: 255, Data: "\xff\xff"}},
		"MUTARC\x01" + "\x02\x04\x00\x00\x00\x00\x68\xa6\x8a\x09" + "\x07\x03abc\x33\x1c\xd2\xac" +
			"\x02\x02\x07\x0a\x07\x11\x09" + "\x19\xde\xec\xb5" + "\x1a\x00\x00\x00END.": {{Type: 2, Data: "\x00\x00\x00\x00"}, {Type: 7, Data: "abc"}},
		"MUTARC\x01" + "\x03\x7f" + x + "\xd9\xb6\x9c\xb2" + "\x04\x80\x01" + y + "\xfb\xf2\xd5\x0f" +
			"\x02\x03\x07\x85\x01\x04\x8c\x01\x87\x01" + "\x09\x60\x4d\x95" + "\x13\x01\x00\x00END.": {{Type: 3, Data: x}, {Type: 4, Data: y}},
		"MUTARC\x01" + "\x01\x00\xbe\x23\xc2\x58\x02\x00\x7d\x70\xef\x73\x03\x00\x3c\x41\xf4\x6a\x04\x00\xfb\xd7\xb5\x25" +
			"\x05\x00\xba\xe6\xae\x3c\x06\x00\x79\xb5\x83\x17\x07\x00\x38\x84\x98\x0e\x08\x00\xf7\x98\x00\x89" +
			"\x09\x00\xb6\xa9\x1b\x90\x0a\x00\x75\xfa\x36\xbb\x0b\x00\x34\xcb\x2d\xa2\x0c\x00\xf3\x5d\x6c\xed" +
			"\x0d\x00\xb2\x6c\x77\xf4\x0e\x00\x71\x3f\x5a\xdf\x0f\x00\x30\x0e\x41\xc6\x10\x00\xae\x00\x1b\x0b" +
			"\x10\x01\x07\x06\x02\x0d\x06\x03\x13\x06\x04\x19\x06\x05\x1f\x06\x06\x25\x06\x07\x2b\x06\x08\x31\x06" +
			"\x09\x37\x06\x0a\x3d\x06\x0b\x43\x06\x0c\x49\x06\x0d\x4f\x06\x0e\x55\x06\x0f\x5b\x06\x10\x61\x06" +
			"\xf5\x43\x3f\x7a" + "\x67\x00\x00\x00END.": all,
	}
}

// parts are the parts of which a container is put together, so that one of them can be another one.
type parts struct {
	magic, frames, index, tail, number, point string
}

// all is the parts put together.
func (p parts) all() string { return p.magic + p.frames + p.index + p.tail + p.number + p.point }

// summed is the parts with the tail of the index that they have.
func (p parts) summed() parts {
	p.tail = little(crc32.ChecksumIEEE([]byte(p.index)))
	return p
}

// pointed is the parts with a number in the foot that points to where their index begins.
func (p parts) pointed() parts {
	p.number = little(uint32(len(p.magic + p.frames)))
	return p
}

// little is a number's four bytes, the lowest first, told by another program.
func little(n uint32) string { return string(binary.LittleEndian.AppendUint32(nil, n)) }

// num is a number's bytes, told by another program.
func num(n uint64) string { return string(binary.AppendUvarint(nil, n)) }

// framed is a section's frame by the words of its chapter, whatever its type and its data are.
func framed(x api.Section) string {
	s := string([]byte{byte(x.Type & 255)}) + num(uint64(len(x.Data))) + x.Data
	return s + little(crc32.ChecksumIEEE([]byte(s)))
}

// partsOf are a container's parts by the chapter's words, reckoned apart from the package, whatever the sections are.
func partsOf(l []api.Section) parts {
	p := parts{magic: string([]byte{'M', 'U', 'T', 'A', 'R', 'C', 1}), point: "END."}
	var frames, index strings.Builder
	index.WriteString(num(uint64(len(l))))
	for _, x := range l {
		f := framed(x)
		index.WriteString(num(uint64(x.Type)) + num(uint64(7+frames.Len())) + num(uint64(len(f))))
		frames.WriteString(f)
	}
	p.frames, p.index = frames.String(), index.String()
	return p.summed().pointed()
}

// sealed is a container by the chapter's words.
func sealed(l []api.Section) string { return partsOf(l).all() }

// inOrder tells by the chapter's words whether sections may be sealed.
func inOrder(l []api.Section) bool {
	for i, x := range l {
		if x.Type < 1 || x.Type > 255 || i > 0 && x.Type <= l[i-1].Type {
			return false
		}
	}
	return len(l) > 0 && len(l) < 17
}

// words is Open by the chapter's words, reckoned apart from the package: the errors in their order, then the sections.
func words(s string) ([]api.Section, api.Errno) {
	if len(s) > 1048576 {
		return nil, api.ErrLarge
	}
	if len(s) < 15 || s[:7] != "MUTARC\x01" || s[len(s)-4:] != "END." {
		return nil, api.ErrMagic
	}
	n := int(binary.LittleEndian.Uint32([]byte(s[len(s)-8:])))
	if n < 7 || n > len(s)-8 {
		return nil, api.ErrIndex
	}
	var l []api.Section
	for at := 7; at < n; {
		x, to, e := frame.Get(s[:n], at)
		if e != api.OK {
			return nil, api.ErrFrame
		}
		l, at = append(l, x), to
	}
	if !inOrder(l) {
		return nil, api.ErrOrder
	}
	if p := partsOf(l); s[n:] != p.index+p.tail+p.number+p.point {
		return nil, api.ErrIndex
	}
	return l, api.OK
}

// hold holds Open against the chapter's words; and what is opened was sealed just so.
func hold(t *testing.T, s string) {
	t.Helper()
	l, e := container.Open(s)
	if m, want := words(s); !slices.Equal(l, m) || e != want {
		t.Fatalf("Open(%.200x): %x, %v; not %x, %v", s, l, e, m, want)
	}
	if e != api.OK {
		return
	}
	if w, e := container.Seal(l); w != s || e != api.OK {
		t.Fatalf("Open(%.200x): %x, which is sealed as %x, %v", s, l, w, e)
	}
}

// opened holds Open against sections that it must tell.
func opened(t *testing.T, s string, l []api.Section) {
	t.Helper()
	if m, e := container.Open(s); !slices.Equal(m, l) || e != api.OK {
		t.Fatalf("Open of %d bytes (%.40x): %d sections, %v; not the %d", len(s), s, len(m), e, len(l))
	}
}

// refused holds Open against an error that it must tell, and no sections beside it.
func refused(t *testing.T, s string, want api.Errno) {
	t.Helper()
	if l, e := container.Open(s); len(l) != 0 || e != want {
		t.Fatalf("Open of %d bytes (%.200x): %d sections, %v; not %v", len(s), s, len(l), e, want)
	}
}

// text is a text of n bytes by chance.
func text(r *rand.Rand, n int) string {
	b := make([]byte, n)
	r.Read(b)
	return string(b)
}

// some is a list by chance, in order, of n sections, each with fewer than most bytes.
func some(r *rand.Rand, n, most int) []api.Section {
	var l []api.Section
	for _, i := range r.Perm(255)[:n] {
		l = append(l, api.Section{Type: i + 1, Data: text(r, r.Intn(most))})
	}
	slices.SortFunc(l, func(x, y api.Section) int { return x.Type - y.Type })
	return l
}

// lists are ordinary ones and the edges: each type alone, 1 to 16 sections, no data, lengths at which a number has a byte more, and data that are frames and containers themselves.
func lists() [][]api.Section {
	var ls [][]api.Section
	for i := 1; i < 256; i++ {
		ls = append(ls, []api.Section{{Type: i}}, []api.Section{{Type: i, Data: string([]byte{byte(i)})}})
		if i < 255 {
			ls = append(ls, []api.Section{{Type: i}, {Type: i + 1}}, []api.Section{{Type: i}, {Type: 255, Data: "END."}})
		}
	}
	r := rand.New(rand.NewSource(1))
	for n := 1; n <= 16; n++ {
		empty := some(r, n, 1)
		ls = append(ls, empty, some(r, n, 10), some(r, n, 200), some(r, n, 3000))
	}
	for _, n := range []int{100, 108, 109, 110, 111, 112, 113, 114, 115, 121, 122, 123, 127, 128, 129, 255, 256, 16365, 16370, 16376, 16377, 16378, 16383, 16384, 65536} {
		data := text(r, n)
		ls = append(ls, []api.Section{{Type: 4, Data: data}}, []api.Section{{Type: 1, Data: data}, {Type: 2}, {Type: 200, Data: data}})
	}
	for s, l := range known() {
		ls = append(ls, l, []api.Section{{Type: 9, Data: s}}, []api.Section{{Type: 9, Data: s}, {Type: 10, Data: s[7:]}, {Type: 11, Data: framed(l[0])}})
	}
	return ls
}
