package code_test

import (
	"math"
	"math/big"
	"math/rand"
	"slices"
	"strings"
	"testing"

	"offshoot/api"
	"offshoot/code"
)

// samples are programs that may be, with their bytes.
func samples() map[string]api.Program {
	r := rand.New(rand.NewSource(1))
	p, s := all()
	m := map[string]api.Program{s: p}
	for tag := 1; tag <= 26; tag++ {
		for _, n := range []int{0, min(most(tag), 30)} {
			p := bearing(tag, n)
			m[written(p)] = p
		}
	}
	for range 20 {
		p := typed(r, 60)
		m[written(p)] = p
	}
	return m
}

// There is no program without bytes, nor with a part of its bytes, nor with bytes behind.
func TestCut(t *testing.T) {
	none(t, "")
	for s, p := range samples() {
		both(t, p, s)
		for i := range s {
			none(t, s[:i])
			if i > 0 {
				hold(t, s[i:])
			}
		}
		for _, behind := range []string{"\x00", "\x01", "\x1a", "\x80", "\xff", s, strings.Repeat("\x1a", 300)} {
			none(t, s+behind)
		}
	}
}

// Each byte changed to each other one: what is told then was put just so.
func TestChanged(t *testing.T) {
	let, all := 0, 0
	for s, p := range samples() {
		b := []byte(s)
		for i := range b {
			for x := 1; x < 256; x++ {
				b[i] = s[i] + byte(x)
				all++
				if hold(t, string(b)) {
					let++
				}
			}
			b[i] = s[i]
		}
		got(t, s, p, api.OK)
	}
	if let < 1000 || let > all/2 {
		t.Errorf("%d of %d were let", let, all)
	}
}

// A byte put in, or taken out, at each place; two of them changed for one another.
func TestMoved(t *testing.T) {
	for s := range samples() {
		for i := range s {
			hold(t, s[:i]+s[i+1:])
			for _, x := range []string{"\x00", "\x01", "\x02", "\x14", "\x1a", "\x7f", "\x80", "\xff"} {
				hold(t, s[:i]+x+s[i:])
			}
			b := []byte(s)
			j := (i + 1) % len(b)
			b[i], b[j] = b[j], b[i]
			hold(t, string(b))
		}
	}
}

// text is bytes of a program in parts: its numbers may be told otherwise.
type text struct {
	params, count, types, nodes, body string
}

// all are all the parts' bytes.
func (x text) all() string { return x.params + x.count + x.types + x.nodes + x.body }

// base are the parts of a program with two variables.
func base() text { return text{"\x01", "\x02", "\x00\x03", "\x04", "\x14\x01\x19\x01\x7e\x1a"} }

// with is what a program's bytes are with a part changed.
func with(change func(*text)) string {
	x := base()
	x.body = "\x14\x02\x19\x01\x7e\x1a"
	change(&x)
	return x.all()
}

// longer is a number in more groups than it needs.
func longer(n uint64, more int) string {
	b := []byte(num(n))
	b[len(b)-1] += 128
	return string(append(append(b, slices.Repeat([]byte{128}, more-1)...), 0))
}

// Each number of a program is told in as few groups as can be, and in no more than ten.
func TestGroups(t *testing.T) {
	if s := with(func(*text) {}); !hold(t, s) {
		t.Fatalf("%x is none", s)
	}
	for more := 1; more <= 12; more++ {
		none(t, with(func(x *text) { x.params = longer(1, more) }))
		none(t, with(func(x *text) { x.count = longer(2, more) }))
		none(t, with(func(x *text) { x.nodes = longer(4, more) }))
		none(t, with(func(x *text) { x.body = "\x14" + longer(2, more) + "\x19\x01\x7e\x1a" }))
		none(t, with(func(x *text) { x.body = "\x14\x02\x19\x01" + longer(0x7e, more) + "\x1a" }))
		none(t, with(func(x *text) { x.body = "\x14\x02\x19\x03" + longer(0, more) + "\x1a" }))
		none(t, longer(0, more)+"\x00\x01\x14\x00")
		none(t, "\x00"+longer(0, more)+"\x01\x14\x00")
		none(t, "\x00\x00"+longer(1, more)+"\x14\x00")
		none(t, "\x00\x00\x01\x14"+longer(0, more))
		for _, n := range ints() {
			s := written(bearing(1, n))
			ahead := strings.TrimSuffix(s, signed(n))
			z := signed(n)
			none(t, ahead+z[:len(z)-1]+string([]byte{z[len(z)-1] + 128})+strings.Repeat("\x80", more-1)+"\x00")
		}
	}
}

// great are the bytes of numbers that are more than any that a program has, up to those that are beyond 64 bits. Their lowest bits are those of n.
func great(n int) []string {
	var l []string
	for _, bits := range []uint{8, 16, 31, 32, 33, 62, 63, 64, 65, 69} {
		x := new(big.Int).Lsh(big.NewInt(1), bits)
		l = append(l, digits(x.Add(x, big.NewInt(int64(n)))))
	}
	return append(l, num(math.MaxInt), num(math.MaxInt+1), num(math.MaxUint64), num(math.MaxUint64-uint64(n)), strings.Repeat("\x80", 10), strings.Repeat("\xff", 10), strings.Repeat("\xff", 9)+"\x02", strings.Repeat("\xff", 40))
}

// Numbers that are too great are none, whatever their lowest bits are.
func TestGreat(t *testing.T) {
	for i := range great(0) {
		none(t, with(func(x *text) { x.params = great(1)[i] }))
		none(t, with(func(x *text) { x.count = great(2)[i] }))
		none(t, with(func(x *text) { x.nodes = great(4)[i] }))
		none(t, with(func(x *text) { x.body = "\x14" + great(2)[i] + "\x19\x01\x7e\x1a" }))
		none(t, with(func(x *text) { x.body = "\x14\x02\x19\x03" + great(0)[i] + "\x1a" }))
		none(t, great(0)[i]+"\x00\x01\x14\x00")
		none(t, "\x00"+great(0)[i]+"\x01\x14\x00")
		none(t, "\x00\x00"+great(1)[i]+"\x14\x00")
		none(t, "\x00\x00\x01\x14"+great(0)[i])
		for tag := 2; tag <= 22; tag++ {
			if bears(tag) == "n" {
				s := written(bearing(tag, 0))
				at := strings.LastIndex(s, string([]byte{byte(tag), 0})) + 1
				none(t, s[:at]+great(0)[i]+s[at+1:])
			}
		}
	}
	for _, z := range []string{strings.Repeat("\xff", 9) + "\x02", strings.Repeat("\xff", 9) + "\x7f", strings.Repeat("\x80", 9) + "\x02", strings.Repeat("\x80", 10) + "\x01", strings.Repeat("\xff", 10)} { // of Int
		none(t, with(func(x *text) { x.body = "\x14\x02\x19\x01" + z + "\x1a" }))
	}
}

// Counts of more than there may be, and of more than bytes are left.
func TestCounts(t *testing.T) {
	zeros, skips := strings.Repeat("\x00", 300), strings.Repeat("\x1a", 300)
	for n := range 301 {
		if ok := hold(t, "\x00"+num(uint64(n))+zeros[:n]+"\x01\x14\x00"); ok != (n <= 12) {
			t.Errorf("%d variables: %v", n, ok)
		}
		if ok := hold(t, num(uint64(n))+num(uint64(n))+zeros[:n]+"\x01\x14\x00"); ok != (n <= 12) {
			t.Errorf("%d parameters: %v", n, ok)
		}
		if ok := hold(t, "\x00\x00"+num(uint64(n+1))+"\x14"+num(uint64(n))+skips[:n]); ok != (n <= 199) {
			t.Errorf("%d nodes: %v", n+1, ok)
		}
		none(t, "\x00"+num(uint64(n+1))+zeros[:n])
		none(t, "\x00\x00"+num(uint64(n+2))+"\x14"+num(uint64(n+1))+skips[:n])
		none(t, "\x00\x00"+num(uint64(n+2))+"\x14"+num(uint64(n))+skips[:n])
		none(t, "\x00\x00"+num(uint64(n))+"\x14"+num(uint64(n))+skips[:n])
		if n > 0 {
			none(t, num(uint64(n))+"\x00\x01\x14\x00")
			none(t, num(uint64(n+1))+num(uint64(n))+zeros[:n]+"\x01\x14\x00")
			none(t, "\x00\x00"+num(uint64(n))+zeros[:n])
		}
	}
	none(t, "\x00\x00\x00")
	none(t, "\x00\x00\x01")
	none(t, "\x00\x0c")
	none(t, "\x00\xff")
}

// Tags and types that there are not.
func TestTagsAndTypes(t *testing.T) {
	for x := range 256 {
		b := string([]byte{byte(x)})
		if ok := hold(t, "\x00\x01"+b+"\x01\x14\x00"); ok != (x <= 9) {
			t.Errorf("type %d: %v", x, ok)
		}
		if ok := hold(t, "\x01\x01"+b+"\x01\x14\x00"); ok != (x == 0) {
			t.Errorf("parameter of type %d: %v", x, ok)
		}
		if ok := hold(t, "\x00\x0c\x00\x01\x02\x03\x04\x05\x06\x07\x08\x09\x00"+b+"\x01\x14\x00"); ok != (x <= 9) {
			t.Errorf("last type %d: %v", x, ok)
		}
		if ok := hold(t, "\x00\x00\x01"+b); ok {
			t.Errorf("first tag %d", x)
		}
		if ok := hold(t, "\x00\x00\x01"+b+"\x00"); ok != (x == 20) {
			t.Errorf("first tag %d, of 0: %v", x, ok)
		}
		if ok := hold(t, "\x00\x00\x02\x14\x01"+b); ok != (x == 26) {
			t.Errorf("tag %d: %v", x, ok)
		}
		if ok := hold(t, "\x00\x00\x02\x14\x01"+b+"\x00"); ok != (x == 20) {
			t.Errorf("tag %d, of 0: %v", x, ok)
		}
	}
}

// A number of more than its tag may bear, and one where a tag bears none.
func TestNumbersGot(t *testing.T) {
	for tag := 2; tag <= 26; tag++ {
		for n := range 300 {
			p := bearing(tag, n)
			if bears(tag) == "n" {
				if ok := hold(t, written(p)); ok != (n <= most(tag)) {
					t.Fatalf("tag %d with %d: %v", tag, n, ok)
				}
				continue
			}
			ahead, behind, _ := strings.Cut(written(bearing(tag, 0)), string([]byte{byte(tag)}))
			none(t, ahead+string([]byte{byte(tag)})+num(uint64(n))+behind)
		}
	}
}

// Of programs that may not be there are no bytes, whatever is wrong with them.
func TestGetWrong(t *testing.T) {
	for _, x := range faults() {
		none(t, written(x.p))
	}
	for _, x := range faults() { // with one fault alone
		if len(x.p.Vars) == 0 && x.p.Params == 0 {
			for _, vars := range [][]int{single(0), {0, 0, 1, 2, 9}} {
				none(t, written(api.Program{Params: 2, Vars: vars, Body: x.p.Body}))
			}
		}
	}
}

// What was got is the asker's own: who changes it changes no other answer, and nothing that is got later.
func TestGetApart(t *testing.T) {
	want, s := all()
	first, _ := code.Get(s)
	second, _ := code.Get(s)
	_ = append(first.Vars[:0], slices.Repeat([]int{-1}, cap(first.Vars))...)
	_ = append(first.Body[:0], slices.Repeat([]api.Node{{Tag: -1, N: -1}}, cap(first.Body))...)
	if !alike(second, want) {
		t.Errorf("another answer: %v", second)
	}
	both(t, want, s)
	none(t, s[:len(s)-1])
}

// Long bytes are no program; the greatest ones, too, are refused.
func TestLong(t *testing.T) {
	for _, s := range []string{"\x00", "\x01", "\x0c", "\x14", "\x1a", "\x80", "\xff", "\x00\x00\x01\x14\x00", "\x00\x00\xc8\x01\x14\xc7\x01"} {
		none(t, strings.Repeat(s, 1<<18))
	}
}
