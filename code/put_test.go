package code_test

import (
	"math"
	"slices"
	"testing"

	"offshoot/api"
	"offshoot/code"
)

// all is a program with each tag, and its bytes written out by hand.
func all() (api.Program, string) {
	p := api.Program{Params: 2, Vars: []int{0, 0, 1, 2, 9}, Body: []api.Node{
		{Tag: 20, N: 6},
		{Tag: 21, N: 2}, {Tag: 18}, {Tag: 12}, {Tag: 3}, {Tag: 1, N: -1}, {Tag: 19}, {Tag: 2, N: 1}, {Tag: 6}, {Tag: 3, N: 2},
		{Tag: 22, N: 4}, {Tag: 1, N: 7}, {Tag: 4, N: 3}, {Tag: 5}, {Tag: 3, N: 1},
		{Tag: 23}, {Tag: 13}, {Tag: 7}, {Tag: 1, N: 63}, {Tag: 1, N: -64}, {Tag: 8}, {Tag: 1, N: 64}, {Tag: 1, N: -65}, {Tag: 20}, {Tag: 20, N: 1}, {Tag: 26},
		{Tag: 24}, {Tag: 14}, {Tag: 9}, {Tag: 3}, {Tag: 3}, {Tag: 10}, {Tag: 3}, {Tag: 11}, {Tag: 3}, {Tag: 3}, {Tag: 20},
		{Tag: 24}, {Tag: 18}, {Tag: 15}, {Tag: 3}, {Tag: 3}, {Tag: 18}, {Tag: 16}, {Tag: 3}, {Tag: 3}, {Tag: 17}, {Tag: 3}, {Tag: 3}, {Tag: 20},
		{Tag: 25}, {Tag: 1, N: 300},
	}}
	s := "\x02\x05\x00\x00\x01\x02\x09" + "\x34" + "\x14\x06" +
		"\x15\x02\x12\x0c\x03\x00\x01\x01\x13\x02\x01\x06\x03\x02" +
		"\x16\x04\x01\x0e\x04\x03\x05\x03\x01" +
		"\x17\x0d\x07\x01\x7e\x01\x7f\x08\x01\x80\x01\x01\x81\x01\x14\x00\x14\x01\x1a" +
		"\x18\x0e\x09\x03\x00\x03\x00\x0a\x03\x00\x0b\x03\x00\x03\x00\x14\x00" +
		"\x18\x12\x0f\x03\x00\x03\x00\x12\x10\x03\x00\x03\x00\x11\x03\x00\x03\x00\x14\x00" +
		"\x19\x01\xd8\x04"
	return p, s
}

// The chapter's example, and others whose bytes are written out by hand.
func TestByHand(t *testing.T) {
	both(t, api.Program{Params: 1, Vars: []int{0}, Body: []api.Node{{Tag: api.Block, N: 1}, {Tag: api.Return}, {Tag: api.Var}}}, "\x01\x01\x00\x03\x14\x01\x19\x03\x00")
	both(t, api.Program{Body: block()}, "\x00\x00\x01\x14\x00")
	both(t, api.Program{Vars: []int{}, Body: block([]api.Node{{Tag: 26}})}, "\x00\x00\x02\x14\x01\x1a")
	both(t, api.Program{Vars: []int{0, 1, 2, 9}, Body: block()}, "\x00\x04\x00\x01\x02\x09\x01\x14\x00")
	both(t, api.Program{Params: 1, Vars: []int{0, 9}, Body: block()}, "\x01\x02\x00\x09\x01\x14\x00")
	p, s := all()
	both(t, p, s)
	for tag := 1; tag <= 26; tag++ {
		if !slices.ContainsFunc(p.Body, func(x api.Node) bool { return x.Tag == tag }) {
			t.Errorf("%d is not among all tags", tag)
		}
	}
}

// Variables of each type, none to 12 of them, and Params of none to all.
func TestVars(t *testing.T) {
	body := block([]api.Node{{Tag: 26}})
	for n := range 13 {
		for params := range n + 1 {
			may(t, api.Program{Params: params, Vars: make([]int, n), Body: body})
			for typ := range 10 {
				p := api.Program{Params: params, Vars: make([]int, n), Body: body}
				for i := params; i < n; i++ {
					p.Vars[i] = typ
				}
				may(t, p)
			}
		}
	}
	may(t, api.Program{Params: 2, Vars: []int{0, 0, 1, 2, 3, 4, 5, 6, 7, 8, 9, 0}, Body: body})
}

// single are 12 variables of one type.
func single(typ int) []int { return slices.Repeat([]int{typ}, 12) }

// bearing is a program with a node of a tag that bears a number. If the tag may bear it, the program is typed, and within the limits.
func bearing(tag, n int) api.Program {
	one, yes, blank := []api.Node{{Tag: 1, N: 5}}, []api.Node{{Tag: 2}}, []api.Node{{Tag: 20}}
	p := api.Program{Vars: single(0)}
	switch {
	case tag == 1 || tag == 3:
		p.Body = ret(join(tag, n)...)
	case tag == 2:
		p.Body = block(join(24, 0, join(tag, n), blank))
	case tag == 4:
		p.Vars, p.Body = single(9), ret(join(tag, n, one)...)
	case tag == 5:
		p.Body = ret(join(tag, n, one)...)
	case tag == 6:
		p.Body = block(join(24, 0, join(tag, n, yes), blank))
	case tag <= 11:
		p.Body = ret(join(tag, n, one, one)...)
	case tag <= 17:
		p.Body = block(join(24, 0, join(tag, n, one, one), blank))
	case tag <= 19:
		p.Body = block(join(24, 0, join(tag, n, yes, yes), blank))
	case tag == 20:
		p.Body = join(tag, n, chain(api.Node{Tag: 26}, max(min(n, 250), 0)))
	case tag == 21 || tag == 25:
		p.Body = block(join(tag, n, one))
	case tag == 22:
		p.Vars, p.Body = single(2), block(join(tag, n, one, one))
	case tag == 23:
		p.Body = block(join(tag, n, yes, blank, blank))
	case tag == 24:
		p.Body = block(join(tag, n, yes, blank))
	default:
		p.Body = block(join(tag, n))
	}
	return p
}

// most is the greatest number that a tag may bear where a program may be; the least one is 0, but for Int.
func most(tag int) int {
	switch tag {
	case 1:
		return math.MaxInt
	case 2:
		return 1
	case 3, 4, 21, 22:
		return 11
	case 20:
		return 199
	}
	return 0
}

// Each tag with the least and the greatest number that it may bear, and those in between; those outside are not put.
func TestNumbers(t *testing.T) {
	for tag := 2; tag <= 26; tag++ {
		for n := range most(tag) + 1 {
			may(t, bearing(tag, n))
		}
		for _, n := range []int{math.MinInt, -1 << 32, -128, -1, most(tag) + 1, most(tag) + 128, 1 << 8, 1 << 32, 1 << 62, math.MaxInt} {
			if tag == 20 && n > 199 {
				put(t, bearing(tag, n), "", api.ErrLarge)
			} else {
				put(t, bearing(tag, n), "", api.ErrTag)
			}
		}
	}
	for _, n := range []int{math.MinInt, -1 << 32, 1<<32 + 1, 1<<32 + 26, 1<<8 + 1, 1<<8 + 26, math.MaxInt} { // as tags, whose lowest byte may be that of one that there is
		put(t, api.Program{Body: block([]api.Node{{Tag: n}})}, "", api.ErrTag)
	}
}

// ints are the least and the greatest number there is, those around 0, and those at which one byte more is wanted.
func ints() []int {
	l := []int{math.MinInt, math.MinInt + 1, -300, -2, -1, 0, 1, 2, 300, math.MaxInt - 1, math.MaxInt}
	for bits := 6; bits < 64; bits += 7 {
		n := 1 << bits
		l = append(l, n-1, n, n+1, -n-1, -n, -n+1)
	}
	return l
}

// Int bears any number.
func TestInts(t *testing.T) {
	for _, n := range ints() {
		may(t, bearing(1, n))
		may(t, api.Program{Params: 1, Vars: single(0), Body: block(join(21, 1, join(1, n)), join(25, 0, join(1, n-1)))})
	}
	ahead := "\x00\x00\x03\x14\x01\x19\x01"
	for n, s := range map[int]string{
		0: "\x00", -1: "\x01", 1: "\x02", 63: "\x7e", -64: "\x7f", 64: "\x80\x01", -65: "\x81\x01", 8191: "\xfe\x7f", -8192: "\xff\x7f", 8192: "\x80\x80\x01", -8193: "\x81\x80\x01",
		math.MaxInt: "\xfe\xff\xff\xff\xff\xff\xff\xff\xff\x01", math.MinInt: "\xff\xff\xff\xff\xff\xff\xff\xff\xff\x01",
	} {
		both(t, api.Program{Body: ret(api.Node{Tag: 1, N: n})}, ahead+s)
	}
}

// A Block without kids, and one with 199; 200 nodes, and a depth of 30; one more is not put.
func TestLimits(t *testing.T) {
	skip, one := api.Node{Tag: 26}, api.Node{Tag: 1, N: math.MinInt}
	may(t, api.Program{Body: block()})
	may(t, api.Program{Vars: single(9), Body: join(20, 199, chain(skip, 199))})
	mayNot(t, api.Program{Vars: single(9), Body: join(20, 200, chain(skip, 200))}, api.ErrLarge)
	may(t, api.Program{Body: join(20, 1, join(20, 198, chain(skip, 198)))})
	mayNot(t, api.Program{Body: join(20, 1, join(20, 199, chain(skip, 199)))}, api.ErrLarge)
	long := join(25, 0, join(7, 0, join(1, math.MaxInt), join(1, math.MinInt)))
	may(t, api.Program{Body: join(20, 52, slices.Repeat(long, 49), chain(skip, 3))})
	mayNot(t, api.Program{Body: join(20, 53, slices.Repeat(long, 49), chain(skip, 4))}, api.ErrLarge)
	may(t, api.Program{Body: chain(api.Node{Tag: 20, N: 1}, 29, skip)})
	mayNot(t, api.Program{Body: chain(api.Node{Tag: 20, N: 1}, 30, skip)}, api.ErrDeep)
	may(t, api.Program{Body: ret(chain(api.Node{Tag: 5}, 27, one)...)})
	mayNot(t, api.Program{Body: ret(chain(api.Node{Tag: 5}, 28, one)...)}, api.ErrDeep)
}

// fault is what is wrong with a program.
type fault struct {
	p api.Program
	e api.Errno
}

// bodies are bodies that may not be, each with what is wrong with it first. Most are wrong in later ways, too.
func bodies() []fault {
	one, skip := api.Node{Tag: 1}, api.Node{Tag: 26}
	var l []fault
	for _, x := range []struct {
		body []api.Node
		e    api.Errno
	}{
		{nil, api.ErrEmpty},
		{[]api.Node{}, api.ErrEmpty},
		{join(20, 200, chain(skip, 200)), api.ErrLarge},
		{chain(skip, 201), api.ErrLarge},
		{chain(api.Node{Tag: 27}, 201), api.ErrLarge},
		{chain(api.Node{Tag: 20, N: 1}, 300, skip), api.ErrLarge},
		{chain(one, 1<<14), api.ErrLarge},
		{chain(one, 1, api.Node{}), api.ErrTag},
		{chain(one, 1, api.Node{Tag: 27}), api.ErrTag},
		{chain(one, 1, api.Node{Tag: 255}), api.ErrTag},
		{block([]api.Node{{Tag: 2, N: 2}}), api.ErrTag},
		{block([]api.Node{{Tag: 3, N: 12}}), api.ErrTag},
		{ret(join(4, 12, []api.Node{one})...), api.ErrTag},
		{block(join(21, 12, []api.Node{one})), api.ErrTag},
		{block(join(22, 12, []api.Node{one}, []api.Node{one})), api.ErrTag},
		{block(join(20, 201)), api.ErrTag},
		{chain(api.Node{Tag: 20, N: 1}, 40, api.Node{Tag: 2, N: 3}), api.ErrTag},
		{join(20, 2, []api.Node{one}), api.ErrForm},
		{join(20, 0, []api.Node{one}), api.ErrForm},
		{chain(one, 200), api.ErrForm},
		{join(20, 200, chain(skip, 199)), api.ErrForm},
		{chain(api.Node{Tag: 20, N: 1}, 200), api.ErrForm},
		{chain(api.Node{Tag: 20, N: 1}, 30, skip), api.ErrDeep},
		{chain(api.Node{Tag: 5}, 30, one), api.ErrDeep},
		{chain(api.Node{Tag: 6}, 199, one), api.ErrDeep},
	} {
		l = append(l, fault{api.Program{Body: x.body}, x.e})
	}
	return l
}

// variables are variables that may not be.
func variables() []api.Program {
	return []api.Program{
		{Params: 1}, {Params: 2, Vars: []int{0}}, {Params: 13, Vars: single(0)}, {Vars: make([]int, 13)}, {Params: 13, Vars: make([]int, 13)}, {Vars: make([]int, 1<<12)},
		{Vars: []int{10}}, {Vars: []int{0, 255}}, {Params: 1, Vars: []int{1}}, {Params: 2, Vars: []int{0, 9}}, {Params: 12, Vars: append(single(0)[:11], 1)},
	}
}

// untyped are bodies that may be, but are not typed; with one variable, a number.
func untyped() [][]api.Node {
	one, yes := []api.Node{{Tag: 1}}, []api.Node{{Tag: 2}}
	return [][]api.Node{
		{{Tag: 26}}, one, yes, join(25, 0, one), block(one), block(yes), ret(yes...), ret(join(6, 0, yes)...), ret(join(3, 1)...), ret(join(4, 0, one)...),
		block(join(21, 0, yes)), block(join(21, 11, one)), block(join(22, 0, one, one)), block(join(23, 0, one, block(), block())), block(join(24, 0, yes, join(26, 0))), ret(join(7, 0, one, yes)...), chain(api.Node{Tag: 20, N: 1}, 29, one...),
	}
}

// faults are programs that may not be, of each error of kinds.Check, in its order: what is told behind it is wrong with most of them, too.
func faults() []fault {
	var l []fault
	for _, x := range bodies() {
		l = append(l, x)
		for _, p := range variables() {
			p.Body = x.p.Body
			l = append(l, fault{p, x.e})
		}
	}
	for _, p := range variables() {
		for _, body := range append(untyped(), block(), ret(api.Node{Tag: 1})) {
			p.Body = body
			l = append(l, fault{p, api.ErrVars})
		}
	}
	for _, body := range untyped() {
		l = append(l, fault{api.Program{Params: 1, Vars: []int{0}, Body: body}, api.ErrKind})
	}
	return l
}

// What may not be is not put: its first error is told, with the empty text beside it.
func TestPutWrong(t *testing.T) {
	told := map[api.Errno]int{}
	for _, x := range faults() {
		put(t, x.p, "", x.e)
		told[x.e]++
	}
	for _, e := range []api.Errno{api.ErrEmpty, api.ErrLarge, api.ErrTag, api.ErrForm, api.ErrDeep, api.ErrVars, api.ErrKind} {
		if told[e] == 0 {
			t.Errorf("%v was never told", e)
		}
	}
	for _, p := range []api.Program{{Params: -1}, {Params: math.MinInt, Vars: single(0)}, {Params: math.MaxInt, Vars: single(0)}, {Vars: []int{-1}}, {Vars: []int{math.MinInt}}, {Vars: []int{256}}, {Vars: []int{1<<32 + 1}}, {Vars: []int{math.MaxInt}}, {Params: 1, Vars: []int{1 << 8}}} { // what has no bytes of its own: numbers of which only a part would be written
		p.Body = block()
		put(t, p, "", api.ErrVars)
		p.Body = nil
		put(t, p, "", api.ErrEmpty)
	}
}

// What stands behind a program's lists in memory is not written to, nor told.
func TestShared(t *testing.T) {
	p, s := all()
	body := append(slices.Clone(p.Body), chain(api.Node{Tag: -3}, 300)...)
	vars := append(slices.Clone(p.Vars), slices.Repeat([]int{-7}, 20)...)
	wasBody, wasVars := slices.Clone(body), slices.Clone(vars)
	put(t, api.Program{Params: p.Params, Vars: vars[:len(p.Vars)], Body: body[:len(p.Body)]}, s, api.OK)
	if !slices.Equal(body, wasBody) || !slices.Equal(vars, wasVars) {
		t.Fatalf("%v %v, not %v %v", body, vars, wasBody, wasVars)
	}
}

// Bytes that were told stay as they are, whatever becomes of the program.
func TestPutApart(t *testing.T) {
	p, want := all()
	s, _ := code.Put(p)
	clear(p.Body)
	clear(p.Vars)
	put(t, p, "", api.ErrTag)
	if s != want {
		t.Errorf("%x, not %x", s, want)
	}
}
