package container_test

import (
	"math"
	"math/rand"
	"slices"
	"strings"
	"testing"

	"offshoot/api"
	"offshoot/container"
)

func TestOpenByHand(t *testing.T) {
	for s, l := range known() {
		opened(t, s, l)
	}
}

// What is sealed is opened, the same.
func TestBack(t *testing.T) {
	for range 2 {
		for _, l := range lists() {
			s, e := container.Seal(l)
			if e != api.OK {
				t.Fatalf("%d sections: %v", len(l), e)
			}
			opened(t, s, l)
			hold(t, s)
		}
	}
}

// What was opened is the asker's own: who changes it changes no other answer, and nothing that is opened later.
func TestAnswersApart(t *testing.T) {
	l := []api.Section{{Type: 1, Data: "abc"}, {Type: 2}, {Type: 9, Data: "z"}}
	s, _ := container.Seal(l)
	first, _ := container.Open(s)
	second, _ := container.Open(s)
	for i := range first {
		first[i] = api.Section{Type: -1, Data: "other"}
	}
	_ = append(first[:0], api.Section{Type: 77})
	if !slices.Equal(second, l) {
		t.Errorf("another answer: %x", second)
	}
	opened(t, s, l)
	l[0].Data = "other"
	if m, _ := container.Open(s); m[0].Data != "abc" {
		t.Errorf("the container changed: %x", m)
	}
}

// base are sections of which wrong containers are made.
func base() []api.Section {
	return []api.Section{{Type: 1, Data: "abc"}, {Type: 2}, {Type: 7, Data: "offshoot"}}
}

// with is a container with one of its parts changed.
func with(change func(*parts)) string {
	p := partsOf(base())
	change(&p)
	return p.all()
}

// Each error is told at the first place where it is so: what stands behind it in the chapter's order is wrong, too.
func TestOpenWrong(t *testing.T) {
	good := partsOf(base())
	bad := "\x01\x00abcd" // a frame with a wrong sum
	for i, x := range []struct {
		s string
		e api.Errno
	}{
		{good.all(), api.OK},
		{strings.Repeat("x", api.MaxBytes+1), api.ErrLarge},
		{good.magic + strings.Repeat("x", api.MaxBytes) + good.number + good.point, api.ErrLarge},
		{strings.Repeat("x", api.MaxBytes), api.ErrMagic},
		{"", api.ErrMagic},
		{"MUTARC\x01", api.ErrMagic},
		{"END.", api.ErrMagic},
		{"MUTARC\x01END.", api.ErrMagic},
		{"MUTARC\x01\x07\x00\x00END.", api.ErrMagic},
		{"MUTARC\x00" + bad + "\x00\x00\x00\x00END.", api.ErrMagic},
		{"MUTARC\x01" + bad + "\x00\x00\x00\x00END,", api.ErrMagic},
		{with(func(p *parts) { p.magic = "mutarc\x01" }), api.ErrMagic},
		{with(func(p *parts) { p.magic = "MUTARC\x02"; p.frames = bad }), api.ErrMagic},
		{with(func(p *parts) { p.magic = "" }), api.ErrMagic},
		{with(func(p *parts) { p.point = "END" }), api.ErrMagic},
		{with(func(p *parts) { p.point = "end."; p.number = little(6) }), api.ErrMagic},
		{with(func(p *parts) { p.point = "" }), api.ErrMagic},
		{"MUTARC\x01\x06\x00\x00\x00END.", api.ErrIndex},
		{"MUTARC\x01\x08\x00\x00\x00END.", api.ErrIndex},
		{"MUTARC\x01\x07\x00\x00\x80END.", api.ErrIndex},
		{"MUTARC\x01\x07\x01\x00\x00END.", api.ErrIndex},
		{with(func(p *parts) { p.number = little(0); p.frames = bad }), api.ErrIndex},
		{with(func(p *parts) { p.number = little(1 << 31); p.frames = bad }), api.ErrIndex},
		{with(func(p *parts) { p.number = little(math.MaxUint32); p.frames = bad }), api.ErrIndex},
		{with(func(p *parts) { p.number = p.number[3:] + p.number[:3] }), api.ErrIndex},
		{with(func(p *parts) { p.frames = bad + p.frames; *p = p.pointed() }), api.ErrFrame},
		{with(func(p *parts) { p.frames += bad; *p = p.pointed() }), api.ErrFrame},
		{with(func(p *parts) { p.frames += "\x08"; *p = p.pointed() }), api.ErrFrame},
		{with(func(p *parts) { p.frames = framed(api.Section{}) + bad; *p = p.pointed() }), api.ErrFrame},
		{with(func(p *parts) { p.frames = framed(api.Section{Type: 3}) + p.frames + bad; *p = p.pointed() }), api.ErrFrame},
		{"MUTARC\x01" + strings.Repeat(framed(api.Section{Type: 1}), 40) + bad + little(7+41*6) + "END.", api.ErrFrame},
		{"MUTARC\x01\x01\x80\x00" + little(10) + "END.", api.ErrFrame},
		{"MUTARC\x01\x01\x81\x80\x40" + little(11) + "END.", api.ErrFrame},
		{"MUTARC\x01\x07\x00\x00\x00END.", api.ErrOrder},
		{with(func(p *parts) { p.number = little(7) }), api.ErrOrder},
		{with(func(p *parts) { p.frames = framed(api.Section{}) + p.frames; *p = p.pointed() }), api.ErrOrder},
		{with(func(p *parts) { p.frames = framed(api.Section{Type: 1}) + p.frames; *p = p.pointed() }), api.ErrOrder},
		{with(func(p *parts) { p.frames += framed(api.Section{Type: 6}); *p = p.pointed() }), api.ErrOrder},
		{with(func(p *parts) { p.frames += framed(api.Section{Type: 8}); *p = p.pointed() }), api.ErrIndex},
		{with(func(p *parts) { p.index = ""; *p = p.summed() }), api.ErrIndex},
		{with(func(p *parts) { p.index, p.tail = "", "" }), api.ErrIndex},
		{with(func(p *parts) { p.tail = "" }), api.ErrIndex},
		{with(func(p *parts) { p.tail = "\x00\x00\x00\x00" }), api.ErrIndex},
		{with(func(p *parts) { p.tail = p.tail[3:] + p.tail[:3] }), api.ErrIndex},
		{with(func(p *parts) { p.number += p.number }), api.ErrIndex},
		{with(func(p *parts) { p.number += p.point + p.number }), api.ErrIndex},
		{with(func(p *parts) { p.tail += p.index + p.tail }), api.ErrIndex},
	} {
		if l, e := container.Open(x.s); e != x.e || e != api.OK && len(l) != 0 {
			t.Errorf("%d: %.200x: %d sections, %v; not %v", i, x.s, len(l), e, x.e)
		}
		hold(t, x.s)
	}
}

// Sections that are not in order are told so, though all else is as it would be with them.
func TestOpenUnordered(t *testing.T) {
	for _, l := range unordered() {
		if slices.ContainsFunc(l, func(x api.Section) bool { return x.Type < 0 || x.Type > 255 }) || len(l) > 1000 {
			continue // no frame tells such a type, and no container has so many sections
		}
		refused(t, sealed(l), api.ErrOrder)
	}
	refused(t, sealed(typed(row(0, 256)...)), api.ErrOrder)
}

// Bytes that are cut at the end, at the beginning or in between are no container, though what was cut off stands right behind.
func TestCut(t *testing.T) {
	for s := range known() {
		all := s + s
		for cut := range len(s) {
			refused(t, all[:cut], api.ErrMagic)
			if cut > 0 {
				refused(t, s[cut:], api.ErrMagic)
			}
			for to := cut + 1; to <= len(s); to++ {
				hold(t, s[:cut]+s[to:])
			}
		}
	}
}

// With more ahead or behind, bytes are no container; nor with more in between.
func TestMore(t *testing.T) {
	for s := range known() {
		for _, more := range []string{"\x00", "\x01", "x", "END.", "MUTARC\x01", "\x80", little(7), s} {
			if !strings.HasPrefix(more, "MUTARC") {
				refused(t, more+s, api.ErrMagic)
			}
			if !strings.HasSuffix(more, "END.") {
				refused(t, s+more, api.ErrMagic)
			}
			for at := range len(s) + 1 {
				if _, e := container.Open(s[:at] + more + s[at:]); e == api.OK {
					t.Fatalf("%x, with %x at %d, is opened", s, more, at)
				}
				hold(t, s[:at]+more+s[at:])
			}
		}
	}
	refused(t, sealed(base())+"END.", api.ErrIndex)
	refused(t, "MUTARC\x01"+sealed(base()), api.ErrFrame)
	refused(t, sealed(typed(1))+sealed(base()), api.ErrFrame)
}

// The foot's number is the place of the index, and no other one.
func TestFoot(t *testing.T) {
	for s := range known() {
		at := len(s) - 8
		right := s[at : at+4]
		for n := range len(s) + 600 {
			x := s[:at] + little(uint32(n)) + "END."
			switch hold(t, x); {
			case little(uint32(n)) == right:
				opened(t, x, known()[s])
			case n < 7 || n > at:
				refused(t, x, api.ErrIndex)
			case n == 7:
				refused(t, x, api.ErrOrder)
			}
		}
		for _, n := range []uint32{1 << 16, 1 << 20, 1<<20 + 7, 1 << 24, 1<<24 + 13, 1<<31 - 1, 1 << 31, 1<<31 + 13, math.MaxUint32 - 7, math.MaxUint32} {
			refused(t, s[:at]+little(n)+"END.", api.ErrIndex)
		}
	}
}

// A number that points ahead of the last frames, or behind them, is found out, also if an index of just those frames stands there.
func TestFootElsewhere(t *testing.T) {
	l := base()
	whole := partsOf(l)
	for n := range len(l) {
		p := partsOf(l[:n])
		behind := whole.frames[len(p.frames):]
		want := api.ErrIndex
		if n == 0 {
			want = api.ErrOrder
		}
		refused(t, p.magic+p.frames+behind+p.index+p.tail+p.number+p.point, want)
		refused(t, p.magic+p.frames+p.index+p.tail+behind+p.number+p.point, want)
		refused(t, p.magic+p.frames+behind+whole.index+whole.tail+p.number+p.point, want)
	}
	p := partsOf(l)
	p.number = little(uint32(7 + len(p.frames+p.index)))
	refused(t, p.all(), api.ErrFrame)
	p.number = little(uint32(7 + len(p.frames+p.index+p.tail)))
	refused(t, p.all(), api.ErrFrame)
}

// indexes are those that one who tells otherwise where sections stand would write for a list.
func indexes(l []api.Section) []string {
	var entries [][3]int
	at := 7
	for _, x := range l {
		n := len(framed(x))
		entries = append(entries, [3]int{x.Type, at, n})
		at += n
	}
	put := func(count int, entries [][3]int) string {
		s := num(uint64(count))
		for _, x := range entries {
			s += num(uint64(x[0])) + num(uint64(x[1])) + num(uint64(x[2]))
		}
		return s
	}
	right := put(len(l), entries)
	swapped := slices.Clone(entries)
	slices.Reverse(swapped)
	out := []string{
		"", "\x00", right + "\x00", right[:len(right)-1], right[1:], right + right, put(len(l)+1, entries), put(len(l)-1, entries), put(0, entries),
		put(len(l)-1, entries[1:]), put(len(l)-1, entries[:len(l)-1]), put(len(l)+1, append(slices.Clone(entries), [3]int{9, at, 6})), put(len(l), swapped),
		string([]byte{right[0] + 128, 0}) + right[1:],                         // the number in a longer form
		right[:len(right)-1] + string([]byte{right[len(right)-1] + 128, 0}),   // the last one, too
		right[:1] + string([]byte{right[1] + 128, 0}) + right[2:],             // and a type
		right[:1] + num(uint64(entries[0][0])+256) + right[2:],                // a type that has the same lowest bits
		right[:1] + num(uint64(entries[0][0])|1<<63) + right[2:],              // and one that has more of them
		strings.Replace(right, "\x01\x07", "\x01\x00", 1),                     // places from behind the magic on
		right[:len(right)-1] + string([]byte{right[len(right)-1] - 4}) + "",   // without the tail
		right[:len(right)-1] + num(uint64(len(l[len(l)-1].Data))) + "",        // of the data alone
		right[:len(right)-1] + num(uint64(entries[len(l)-1][2])|1<<32) + "\n", // and more behind
	}
	for i := range entries {
		for j := range 3 {
			for _, far := range []int{-1, 1, 4, 7, 128} {
				other := slices.Clone(entries)
				other[i][j] += far
				out = append(out, put(len(l), other))
			}
		}
	}
	return out
}

// Another index is found out, with its own tail or with the right one; and so is another tail behind the right index.
func TestAnotherIndex(t *testing.T) {
	for _, l := range [][]api.Section{base(), {{Type: 1}, {Type: 5, Data: "z"}}, {{Type: 1, Data: "\x00"}, {Type: 2, Data: strings.Repeat("y", 30)}, {Type: 3}, {Type: 4, Data: "END."}}} {
		p := partsOf(l)
		for i, index := range indexes(l) {
			other := p
			other.index = index
			if index == p.index {
				t.Fatalf("%d is no other one", i)
			}
			refused(t, other.all(), api.ErrIndex)
			refused(t, other.summed().all(), api.ErrIndex)
			other = other.summed()
			other.index = p.index
			refused(t, other.all(), api.ErrIndex)
		}
		opened(t, p.all(), l)
	}
}

// Of a container that is changed at one byte, made longer or shorter by one, Open tells what the chapter's words say; and it is opened no more.
func TestOneByteChanged(t *testing.T) {
	for s := range known() {
		step := 1 + len(s)/60 // of long ones not each byte: there are enough of the short ones
		for i := range len(s) {
			for b := i % step; b < 256; b += step {
				x := s[:i] + string([]byte{byte(b)}) + s[i+1:]
				hold(t, x)
				hold(t, s[:i]+string([]byte{byte(b)})+s[i:])
				if _, e := container.Open(x); x != s && e == api.OK {
					t.Fatalf("%x, another one than %x, is opened", x, s)
				}
			}
			hold(t, s[:i]+s[i+1:])
		}
	}
}

// All frames are looked at ahead of their order, also if there are as many as can be; and the call ends.
func TestManyFrames(t *testing.T) {
	f := framed(api.Section{Type: 1})
	n := (api.MaxBytes - 15) / len(f)
	s := "MUTARC\x01" + strings.Repeat(f, n)
	refused(t, s+little(uint32(len(s)))+"END.", api.ErrOrder)
	refused(t, s[:len(s)-1]+"?"+little(uint32(len(s)))+"END.", api.ErrFrame)
	refused(t, s+little(uint32(len(s)-1))+"END.", api.ErrFrame)
}

// changed is a container in which pieces are cut out, doubled, or put in by chance.
func changed(r *rand.Rand, s string) string {
	for range r.Intn(4) {
		from := r.Intn(len(s) + 1)
		to := from + r.Intn(min(len(s)-from, 12)+1)
		switch r.Intn(4) {
		case 0:
			s = s[:from] + s[to:]
		case 1:
			s = s[:to] + s[from:]
		case 2:
			s = s[:from] + text(r, to-from) + s[to:]
		case 3:
			s = s[:max(0, len(s)-8)] + little(uint32(r.Intn(len(s)+9))) + "END."
		}
	}
	return s
}

// Every call ends and none panics, whatever the bytes and the sections are; and it tells the same again.
func TestAnyArguments(t *testing.T) {
	r := rand.New(rand.NewSource(3))
	for range 20000 {
		var l []api.Section
		for range r.Intn(6) {
			l = append(l, api.Section{Type: r.Intn(1 << r.Intn(10)), Data: text(r, r.Intn(12))})
		}
		s, e := container.Seal(l)
		if inOrder(l) != (e == api.OK) || e == api.OK && s != sealed(l) || e != api.OK && (s != "" || e != api.ErrOrder) {
			t.Fatalf("Seal(%x): %x, %v", l, s, e)
		}
		for _, x := range []string{text(r, r.Intn(40)), "MUTARC\x01" + text(r, r.Intn(30)) + "END.", sealed(l), changed(r, sealed(l)), changed(r, sealed(some(r, 1+r.Intn(16), 9)))} {
			hold(t, x)
			hold(t, x)
		}
	}
}
