package code_test

import (
	"math/big"
	"math/rand"
	"slices"
	"strings"
	"testing"

	"offshoot/api"
	"offshoot/code"
	"offshoot/kinds"
)

// digits is a number to the base 128, its lowest digit first, by chapter 1's words.
func digits(n *big.Int) string {
	var b []byte
	rest, digit := new(big.Int).Set(n), new(big.Int)
	for {
		rest.DivMod(rest, big.NewInt(128), digit)
		if rest.Sign() == 0 {
			return string(append(b, byte(digit.Int64())))
		}
		b = append(b, byte(digit.Int64()+128))
	}
}

// num are the bytes of a number without a sign.
func num(n uint64) string { return digits(new(big.Int).SetUint64(n)) }

// signed are the bytes of a number with a sign, by chapter 2's words.
func signed(n int) string {
	z := new(big.Int).Lsh(big.NewInt(int64(n)), 1)
	if n < 0 {
		z.Neg(z).Sub(z, big.NewInt(1))
	}
	return digits(z)
}

// bears tells how a tag's number is told, by the chapter's words: s with a sign, n without one, or not at all.
func bears(tag int) string {
	switch tag {
	case 1:
		return "s"
	case 2, 3, 4, 20, 21, 22:
		return "n"
	}
	return ""
}

// nodeBytes are a node's bytes.
func nodeBytes(x api.Node) string {
	s := string([]byte{byte(x.Tag)})
	switch bears(x.Tag) {
	case "s":
		s += signed(x.N)
	case "n":
		s += num(uint64(x.N))
	}
	return s
}

// written are a program's bytes by the chapter's words, whether it is typed or not.
func written(p api.Program) string {
	l := []string{num(uint64(p.Params)), num(uint64(len(p.Vars)))}
	for _, t := range p.Vars {
		l = append(l, string([]byte{byte(t)}))
	}
	l = append(l, num(uint64(len(p.Body))))
	for _, x := range p.Body {
		l = append(l, nodeBytes(x))
	}
	return strings.Join(l, "")
}

// scan goes through bytes by the chapter's words. Once something can't be so, ok is false.
type scan struct {
	s  string
	ok bool
}

// byte is the byte that comes next.
func (c *scan) byte() int {
	if c.ok = c.ok && c.s != ""; !c.ok {
		return 0
	}
	b := c.s[0]
	c.s = c.s[1:]
	return int(b)
}

// big is the number without a sign that comes next, whatever its size.
func (c *scan) big() *big.Int {
	n, shift := new(big.Int), uint(0)
	for {
		b := c.byte()
		n.Or(n, new(big.Int).Lsh(big.NewInt(int64(b%128)), shift))
		if shift += 7; b < 128 {
			return n
		}
	}
}

// num is the number without a sign that comes next, if it is 1000 at most: no program that may be has one that is more.
func (c *scan) num() int {
	n := c.big()
	if c.ok = c.ok && n.Cmp(big.NewInt(1000)) <= 0; !c.ok {
		return 0
	}
	return int(n.Int64())
}

// signed is the number with a sign that comes next.
func (c *scan) signed() int {
	z := c.big()
	n := new(big.Int).Rsh(z, 1)
	if z.Bit(0) == 1 {
		n.Neg(n).Sub(n, big.NewInt(1))
	}
	if c.ok = c.ok && n.IsInt64(); !c.ok {
		return 0
	}
	return int(n.Int64())
}

// program is the program that comes next.
func (c *scan) program() api.Program {
	p := api.Program{Params: c.num()}
	for range c.num() {
		p.Vars = append(p.Vars, c.byte())
	}
	for range c.num() {
		x := api.Node{Tag: c.byte()}
		switch bears(x.Tag) {
		case "s":
			x.N = c.signed()
		case "n":
			x.N = c.num()
		}
		p.Body = append(p.Body, x)
	}
	return p
}

// wordsGet is Get by the chapter's words: it goes through the bytes, and asks whether what it finds may be, and has these bytes.
func wordsGet(s string) (api.Program, api.Errno) {
	c := &scan{s, true}
	p := c.program()
	if !c.ok || kinds.Check(p) != api.OK || written(p) != s {
		return api.Program{}, api.ErrForm
	}
	return p, api.OK
}

// alike tells whether programs are the same, part by part.
func alike(p, q api.Program) bool {
	return p.Params == q.Params && slices.Equal(p.Vars, q.Vars) && slices.Equal(p.Body, q.Body)
}

// twin is the same program, in memory of its own.
func twin(p api.Program) api.Program {
	return api.Program{Params: p.Params, Vars: slices.Clone(p.Vars), Body: slices.Clone(p.Body)}
}

// short is a program as far as it fits on a line.
func short(p api.Program) api.Program {
	return api.Program{Params: p.Params, Vars: p.Vars[:min(len(p.Vars), 20)], Body: p.Body[:min(len(p.Body), 40)]}
}

// put holds Put of a program against its bytes and error, twice; the program stays as it was.
func put(t *testing.T, p api.Program, want string, wrong api.Errno) {
	t.Helper()
	was := twin(p)
	for range 2 {
		if s, e := code.Put(p); s != want || e != wrong {
			t.Fatalf("Put of %v (%d nodes): %x %v, not %x %v", short(p), len(p.Body), s, e, want, wrong)
		}
	}
	if !alike(p, was) {
		t.Fatalf("%v was changed: %v", short(was), short(p))
	}
}

// got holds Get of bytes against a program and an error, twice.
func got(t *testing.T, s string, want api.Program, wrong api.Errno) {
	t.Helper()
	for range 2 {
		if p, e := code.Get(s); !alike(p, want) || e != wrong {
			t.Fatalf("Get of %x: %v (%d nodes) %v, not %v %v", s, short(p), len(p.Body), e, short(want), wrong)
		}
	}
}

// both holds that a program has these bytes, and that they are told as that program.
func both(t *testing.T, p api.Program, s string) {
	t.Helper()
	put(t, p, s, api.OK)
	got(t, s, p, api.OK)
}

// may holds that a program is put, by the chapter's words, and got back.
func may(t *testing.T, p api.Program) {
	t.Helper()
	both(t, p, written(p))
}

// mayNot holds that a program is not put, and that nothing is got of the bytes that it would have.
func mayNot(t *testing.T, p api.Program, e api.Errno) {
	t.Helper()
	put(t, p, "", e)
	none(t, written(p))
}

// none holds that nothing is got of bytes.
func none(t *testing.T, s string) {
	t.Helper()
	got(t, s, api.Program{}, api.ErrForm)
}

// hold holds Get of bytes against the chapter's words; what is got was put just so. It tells whether there is a program.
func hold(t *testing.T, s string) bool {
	t.Helper()
	p, e := wordsGet(s)
	got(t, s, p, e)
	if e == api.OK {
		put(t, p, s, api.OK)
	}
	return e == api.OK
}

// chain is a node so many times, and others behind.
func chain(x api.Node, n int, behind ...api.Node) []api.Node {
	return append(slices.Repeat([]api.Node{x}, n), behind...)
}

// block is a Block of these parts.
func block(parts ...[]api.Node) []api.Node {
	return append([]api.Node{{Tag: 20, N: len(parts)}}, slices.Concat(parts...)...)
}

// ret is a Block with the Return of a number alone.
func ret(l ...api.Node) []api.Node { return block(append([]api.Node{{Tag: 25}}, l...)) }

// maker makes parts of programs by chance.
type maker struct {
	r    *rand.Rand
	vars []int
}

// variable is a number of a variable with a type from one to another, or -1, if there is none.
func (m maker) variable(from, to int) int {
	var l []int
	for n, t := range m.vars {
		if t >= from && t <= to {
			l = append(l, n)
		}
	}
	if len(l) == 0 {
		return -1
	}
	return l[m.r.Intn(len(l))]
}

// join is a node, and kids behind it.
func join(tag, n int, kids ...[]api.Node) []api.Node {
	return append([]api.Node{{Tag: tag, N: n}}, slices.Concat(kids...)...)
}

// number is a part that is a number, so deep at most.
func (m maker) number(deep int) []api.Node {
	v, a := m.variable(0, 0), m.variable(2, 9)
	switch x := m.r.Intn(8); {
	case x == 0 && v >= 0:
		return join(3, v)
	case x < 2 || deep < 2:
		return join(1, int(m.r.Uint64())>>m.r.Intn(64))
	case x < 4 && a >= 0:
		return join(4, a, m.number(deep-1))
	case x == 4:
		return join(5, 0, m.number(deep-1))
	}
	return join(7+m.r.Intn(5), 0, m.number(deep-1), m.number(deep-1))
}

// truth is a part that is a truth, so deep at most.
func (m maker) truth(deep int) []api.Node {
	v := m.variable(1, 1)
	switch x := m.r.Intn(6); {
	case x == 0 && v >= 0:
		return join(3, v)
	case x < 2 || deep < 2:
		return join(2, m.r.Intn(2))
	case x == 2:
		return join(6, 0, m.truth(deep-1))
	case x == 3:
		return join(18+m.r.Intn(2), 0, m.truth(deep-1), m.truth(deep-1))
	}
	return join(12+m.r.Intn(6), 0, m.number(deep-1), m.number(deep-1))
}

// statement is a part that is a statement, so deep at most.
func (m maker) statement(deep int) []api.Node {
	v, b, a := m.variable(0, 0), m.variable(1, 1), m.variable(2, 9)
	switch x := m.r.Intn(8); {
	case x == 0 || deep < 2:
		return join(26, 0)
	case x == 1 && v >= 0:
		return join(21, v, m.number(deep-1))
	case x == 2 && b >= 0:
		return join(21, b, m.truth(deep-1))
	case x == 3 && a >= 0:
		return join(22, a, m.number(deep-1), m.number(deep-1))
	case x == 4:
		return join(23, 0, m.truth(deep-1), m.block(deep-1), m.block(deep-1))
	case x == 5:
		return join(24, 0, m.truth(deep-1), m.block(deep-1))
	case x == 6:
		return join(25, 0, m.number(deep-1))
	}
	return m.block(deep)
}

// block is a Block, so deep at most.
func (m maker) block(deep int) []api.Node {
	var kids [][]api.Node
	if deep > 1 {
		for range m.r.Intn(5) {
			kids = append(kids, m.statement(deep-1))
		}
	}
	return block(kids...)
}

// typed is a program by chance that may be, of so many nodes at most.
func typed(r *rand.Rand, most int) api.Program {
	for {
		p := api.Program{Params: r.Intn(4)}
		p.Vars = make([]int, p.Params)
		for range r.Intn(13 - p.Params) {
			p.Vars = append(p.Vars, r.Intn(10))
		}
		p.Body = maker{r, p.Vars}.block(1 + r.Intn(9))
		if len(p.Body) <= most && kinds.Check(p) == api.OK {
			return p
		}
	}
}
