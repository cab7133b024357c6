package code_test

import (
	"math/rand"
	"strings"
	"testing"

	"offshoot/api"
	"offshoot/code"
	"offshoot/kinds"
)

// Programs by chance are put, by the chapter's words, and got back, the same.
func TestBack(t *testing.T) {
	r := rand.New(rand.NewSource(2))
	nodes, vars := 0, 0
	for range 3000 {
		p := typed(r, 200)
		may(t, p)
		nodes, vars = max(nodes, len(p.Body)), max(vars, len(p.Vars))
	}
	if nodes < 150 || vars < 12 {
		t.Errorf("%d nodes and %d variables at most", nodes, vars)
	}
}

// Unlike programs have unlike bytes: each text stands for one program alone.
func TestUnlike(t *testing.T) {
	r := rand.New(rand.NewSource(3))
	of := map[string]api.Program{}
	for range 20000 {
		p := typed(r, 12)
		s, e := code.Put(p)
		if q, ok := of[s]; e != api.OK || ok && !kinds.Same(p, q) {
			t.Fatalf("%v and %v: %x %v", p, q, s, e)
		}
		of[s] = p
	}
	if len(of) < 5000 {
		t.Errorf("%d programs only", len(of))
	}
}

// A program that is changed in one field has other bytes, if it has any.
func TestNeighbours(t *testing.T) {
	r := rand.New(rand.NewSource(4))
	may := 0
	for range 100 {
		p := typed(r, 60)
		s, _ := code.Put(p)
		other := func() {
			switch u, e := code.Put(p); {
			case e == api.OK && u == s:
				t.Fatalf("%v has other bytes: %x", p, s)
			case e == api.OK:
				may++
			}
		}
		for _, by := range []int{-1, 1, 2, 128, 1 << 8, 1 << 32, -1 << 63} {
			p.Params += by
			other()
			p.Params -= by
			for i := range p.Vars {
				p.Vars[i] += by
				other()
				p.Vars[i] -= by
			}
			for i := range p.Body {
				p.Body[i].N += by
				other()
				p.Body[i].N -= by
				p.Body[i].Tag += by
				other()
				p.Body[i].Tag -= by
			}
		}
		put(t, p, s, api.OK)
	}
	if may < 1000 {
		t.Errorf("%d of them may be only", may)
	}
}

// All short texts of bytes that programs have: just those that the chapter's words let are programs, and each was put just so.
func TestShort(t *testing.T) {
	const bytes = "\x00\x01\x02\x03\x14\x19\x1a\x80"
	let, row := 0, make([]byte, 0, 8)
	var down func(int)
	down = func(more int) {
		if hold(t, string(row)) {
			let++
		}
		if more == 0 {
			return
		}
		for i := range len(bytes) {
			row = append(row, bytes[i])
			down(more - 1)
			row = row[:len(row)-1]
		}
	}
	down(6)
	if let != 7 { // a Block without kids, alone, and with a variable of four types, or a parameter; and one with a Skip
		t.Errorf("%d were let", let)
	}
}

// Texts by chance: pieces of programs' bytes, cut and put together, and any bytes behind.
func TestChance(t *testing.T) {
	r := rand.New(rand.NewSource(5))
	let := 0
	for range 60000 {
		s := written(typed(r, 20))
		b := []byte(s)
		for range r.Intn(3) {
			b[r.Intn(len(b))] = byte(r.Intn(28))
		}
		switch r.Intn(4) {
		case 0:
			b = b[:r.Intn(len(b))]
		case 1:
			u := written(typed(r, 20))
			b = append(b[:r.Intn(len(b))], u[r.Intn(len(u)):]...)
		case 2:
			b[r.Intn(len(b))] = byte(r.Intn(256))
		}
		if hold(t, string(b)) {
			let++
		}
	}
	if let < 1000 {
		t.Errorf("%d were let", let)
	}
}

// Any programs at all: what is told hangs on kinds.Check alone, and no call panics.
func TestAny(t *testing.T) {
	r := rand.New(rand.NewSource(6))
	for range 20000 {
		p := api.Program{Params: int(r.Uint64()) >> r.Intn(64)}
		for range r.Intn(15) {
			p.Vars = append(p.Vars, int(r.Uint64())>>(50+r.Intn(14)))
		}
		for range r.Intn(12) {
			p.Body = append(p.Body, api.Node{Tag: int(r.Uint64()) >> r.Intn(64), N: int(r.Uint64()) >> r.Intn(64)})
		}
		e := kinds.Check(p)
		if e == api.OK {
			put(t, p, written(p), e)
		} else {
			put(t, p, "", e)
		}
		b := make([]byte, r.Intn(40))
		r.Read(b)
		hold(t, string(b))
		hold(t, "\x00\x00"+strings.Trim(string(b), "\x00"))
	}
}
