package crc_test

import (
	"hash/crc32"
	"math"
	"math/rand"
	"strings"
	"sync"
	"testing"

	"offshoot/crc"
)

// sums are texts and their sums, known from elsewhere.
func sums() map[string]uint32 {
	return map[string]uint32{
		"": 0, "a": 0xe8b7be43, "abc": 0x352441c2, "123456789": 0xcbf43926,
		"message digest": 0x20159d7f, "abcdefghijklmnopqrstuvwxyz": 0x4c2750bd,
		"The quick brown fox jumps over the lazy dog": 0x414fa339,
		"\x00": 0xd202ef8d, "\xff": 0xff000000, "\x00\x00\x00\x00": 0x2144df1c, "\xff\xff\xff\xff": 0xffffffff,
		strings.Repeat("\x00", 32): 0x190a55ad, strings.Repeat("\xff", 32): 0xff6cab0b,
	}
}

// behind is the register behind a byte, by the chapter's words, bit by bit and without a table.
func behind(c uint32, b byte) uint32 {
	for i := range 8 {
		if b>>i&1 == 1 {
			c ^= 1 << i
		}
	}
	for range 8 {
		lowest := c % 2
		c /= 2
		if lowest == 1 {
			c ^= 0xedb88320
		}
	}
	return c
}

// told is a text's sum by the chapter's words.
func told(s string) uint32 {
	c := uint32(math.MaxUint32)
	for i := range len(s) {
		c = behind(c, s[i])
	}
	return ^c
}

// little is a number's four bytes, the lowest first.
func little(c uint32) string {
	return string([]byte{byte(c), byte(c >> 8), byte(c >> 16), byte(c >> 24)})
}

// text is a text of n bytes by chance.
func text(r *rand.Rand, n int) string {
	b := make([]byte, n)
	r.Read(b)
	return string(b)
}

// texts are ordinary ones and the edges: the empty one, all of one byte, all lengths up to 40, those around a table's size.
func texts() []string {
	var l []string
	for s := range sums() {
		l = append(l, s)
	}
	for b := range 256 {
		l = append(l, string([]byte{byte(b)}))
	}
	r := rand.New(rand.NewSource(1))
	for n := range 40 {
		l = append(l, text(r, n), strings.Repeat("\x00", n), strings.Repeat("\xff", n))
	}
	for _, n := range []int{255, 256, 257, 1023, 1024, 1025, 4096} {
		l = append(l, text(r, n))
	}
	return l
}

// turned is a text with bits turned, counted from the first byte on, in each byte from the lowest one on.
func turned(s string, bits ...int) string {
	b := []byte(s)
	for _, i := range bits {
		b[i/8] ^= 1 << (i % 8)
	}
	return string(b)
}

func TestKnownSums(t *testing.T) {
	table := crc.New()
	for s, sum := range sums() {
		if c := crc.Sum(s); c != sum {
			t.Errorf("Sum(%q): %08x, not %08x", s, c, sum)
		}
		if c := table.Sum(s); c != sum {
			t.Errorf("a table's Sum(%q): %08x, not %08x", s, c, sum)
		}
	}
}

// Both ways to the sum tell what the words tell, and what another program tells; and they tell it again.
func TestSum(t *testing.T) {
	table := crc.New()
	for range 2 {
		for _, s := range texts() {
			w := told(s)
			if w != crc32.ChecksumIEEE([]byte(s)) {
				t.Fatalf("the words themselves: %08x of %x", w, s)
			}
			if c := crc.Sum(s); c != w {
				t.Errorf("Sum(%x): %08x, not %08x", s, c, w)
			}
			if c := table.Sum(s); c != w {
				t.Errorf("a table's Sum(%x): %08x, not %08x", s, c, w)
			}
		}
	}
}

func TestSumOfALongText(t *testing.T) {
	s := text(rand.New(rand.NewSource(2)), 1<<20+3)
	w := crc32.ChecksumIEEE([]byte(s))
	if c := crc.Sum(s); c != w {
		t.Errorf("%08x, not %08x", c, w)
	}
	if !crc.Good(s + crc.Tail(s)) {
		t.Error("not good with its tail")
	}
}

// registers are such as have single bits, all bits, none, and more by chance.
func registers() []uint32 {
	l := []uint32{0, math.MaxUint32, 0xedb88320, 1<<31 - 1, 0xff, 0xffffff00}
	r := rand.New(rand.NewSource(3))
	for i := range 32 {
		l = append(l, 1<<i, r.Uint32())
	}
	return l
}

func TestNext(t *testing.T) {
	table := crc.New()
	for _, c := range registers() {
		for b := range 256 {
			if n, w := table.Next(c, byte(b)), behind(c, byte(b)); n != w {
				t.Fatalf("Next(%08x, %d): %08x, not %08x", c, b, n, w)
			}
		}
	}
}

// The sum is the register behind the last byte, from all bits set on, with all bits turned.
func TestSumGoesByNext(t *testing.T) {
	table := crc.New()
	for _, s := range texts() {
		c := uint32(math.MaxUint32)
		for i := range len(s) {
			c = table.Next(c, s[i])
		}
		if table.Sum(s) != ^c || crc.Sum(s) != ^c {
			t.Fatalf("%x: %08x %08x, not %08x", s, table.Sum(s), crc.Sum(s), ^c)
		}
	}
}

// A table tells the truth whatever it is asked first, whoever made it, and whatever was asked of another one.
func TestFreshTables(t *testing.T) {
	for b := range 256 {
		if n := crc.New().Next(math.MaxUint32, byte(b)); n != behind(math.MaxUint32, byte(b)) {
			t.Fatalf("Next first, of %d: %08x", b, n)
		}
	}
	if c := crc.New().Sum("123456789"); c != 0xcbf43926 {
		t.Errorf("Sum first: %08x", c)
	}
	if c := crc.New().Sum(""); c != 0 {
		t.Errorf("Sum of the empty text first: %08x", c)
	}
	var bare crc.Table
	if c := bare.Sum("123456789"); c != 0xcbf43926 {
		t.Errorf("a table that New did not make: %08x", c)
	}
	if crc.New() == crc.New() {
		t.Error("two answers of New are one table")
	}
}

// Who asks one table at once with others is told the same.
func TestOneTableForMany(t *testing.T) {
	for range 20 {
		table := crc.New()
		var told [8]uint32
		var wg sync.WaitGroup
		for i := range told {
			wg.Go(func() { told[i] = table.Sum("123456789") })
		}
		wg.Wait()
		for i, c := range told {
			if c != 0xcbf43926 {
				t.Fatalf("%d: %08x", i, c)
			}
		}
	}
}

func TestTail(t *testing.T) {
	for s, tail := range map[string]string{
		"": "\x00\x00\x00\x00", "123456789": "\x26\x39\xf4\xcb", "a": "\x43\xbe\xb7\xe8", "\xff": "\x00\x00\x00\xff",
	} {
		if w := crc.Tail(s); w != tail {
			t.Errorf("Tail(%q): %x, not %x", s, w, tail)
		}
	}
	for _, s := range texts() {
		c := told(s)
		if w := crc.Tail(s); w != little(c) {
			t.Errorf("Tail(%x): %x, of %08x", s, w, c)
		}
	}
}

func TestGood(t *testing.T) {
	for _, s := range texts() {
		if !crc.Good(s + crc.Tail(s)) {
			t.Errorf("%x with its tail", s)
		}
		if w := s + crc.Tail(s); !crc.Good(w + crc.Tail(w)) {
			t.Errorf("%x with its tail, and the tail of both", s)
		}
	}
}

// Fewer than four bytes are never good, not even such as a tail begins or ends with; of four bytes only the tail of the empty text is.
func TestGoodOfShortTexts(t *testing.T) {
	short := []string{"", "\x00\x00\x00", "\xff\xff\xff"}
	for a := range 256 {
		short = append(short, string([]byte{byte(a)}))
		for b := range 256 {
			short = append(short, string([]byte{byte(a), byte(b)}), string([]byte{byte(a), 0, byte(b)}))
		}
	}
	for _, s := range texts() {
		w := crc.Tail(s)
		short = append(short, w[:3], w[1:])
	}
	for _, s := range short {
		if crc.Good(s) {
			t.Errorf("%x is good", s)
		}
	}
	if !crc.Good("\x00\x00\x00\x00") {
		t.Error("the empty text with its tail")
	}
	r := rand.New(rand.NewSource(4))
	for range 2000 {
		if s := text(r, 4); crc.Good(s) != (s == "\x00\x00\x00\x00") {
			t.Errorf("%x: %v", s, crc.Good(s))
		}
	}
}

// wrong are the tails that one who reckons or writes the sum otherwise would put behind a text.
func wrong(s string) map[string]string {
	c, unset := told(s), uint32(0)
	for i := range len(s) {
		unset = behind(unset, s[i])
	}
	return map[string]string{
		"missing":                          "",
		"its highest byte first":           string([]byte{byte(c >> 24), byte(c >> 16), byte(c >> 8), byte(c)}),
		"the register, no bits turned":     little(^c),
		"from a register with no bits set": little(^unset),
		"from none set, and none turned":   little(unset),
		"one more":                         little(c + 1),
		"one less":                         little(c - 1),
		"of both inner bytes changed":      little(c ^ 0xffff00),
		"without its first byte":           little(c)[1:],
		"without its last byte":            little(c)[:3],
		"ahead of one more byte":           little(c) + "\x00",
		"behind one more byte":             "\x00" + little(c),
		"of the text and one byte more":    little(told(s + "\x00")),
		"of one byte and the text":         little(told("\x00" + s)),
		"of the text with its tail":        little(told(s + little(c))),
	}
}

func TestWrongTails(t *testing.T) {
	for _, s := range []string{"123456789", "burst", "offshoot", "The quick brown fox jumps over the lazy dog"} {
		for name, tail := range wrong(s) {
			if crc.Good(s + tail) {
				t.Errorf("%q is good with a wrong tail (%s): %x", s, name, tail)
			}
		}
	}
}

// Good tells what the words tell, whatever it is given.
func TestGoodOfAnyText(t *testing.T) {
	r := rand.New(rand.NewSource(5))
	for range 20000 {
		s := text(r, r.Intn(30))
		if len(s) >= 4 && r.Intn(2) == 0 {
			s = s[:len(s)-4] + crc.Tail(s[:len(s)-4])
		}
		want := false
		if n := len(s) - 4; n >= 0 {
			want = s[n:] == little(told(s[:n]))
		}
		if crc.Good(s) != want {
			t.Fatalf("Good(%x): %v", s, !want)
		}
	}
}

// burst holds Good against a text with its tail, of which the bits of a mask are turned, from a bit on.
func burst(t *testing.T, w string, at int, mask uint32) {
	t.Helper()
	var bits []int
	for i := range 32 {
		if mask>>i&1 == 1 {
			bits = append(bits, at+i)
		}
	}
	if s := turned(w, bits...); crc.Good(s) {
		t.Fatalf("%x is good, of %x with the bits %v turned", s, w, bits)
	}
}

// bodies are texts that are turned with their tails: the empty one, such as are shorter than a tail, and longer ones.
func bodies() []string {
	return []string{"", "\x00", "\xff", "ab", "abc", "abcd", "burst", "123456789", strings.Repeat("\x00", 9), strings.Repeat("\xff", 9)}
}

// Bursts of one bit, and of two that stand up to 31 apart: at the beginning, in the text, across the tail and in the tail.
func TestBurstsOfOneAndTwoBits(t *testing.T) {
	for _, s := range bodies() {
		w := s + crc.Tail(s)
		for at := range 8 * len(w) {
			burst(t, w, at, 1)
			for last := 1; last < 32 && at+last < 8*len(w); last++ {
				burst(t, w, at, 1|1<<last)
			}
		}
	}
}

// All bursts of up to ten bits.
func TestShortBursts(t *testing.T) {
	for _, s := range []string{"", "a", "burst"} {
		w := s + crc.Tail(s)
		for at := range 8 * len(w) {
			for mask := uint32(1); mask < 1<<10 && mask>>(8*len(w)-at) == 0; mask += 2 {
				burst(t, w, at, mask)
			}
		}
	}
}

// Bursts of 32 bits, the longest that must be found: both ends turned, all of them, and whatever is between.
func TestLongestBursts(t *testing.T) {
	r := rand.New(rand.NewSource(6))
	for _, s := range bodies() {
		w := s + crc.Tail(s)
		for at := range 8*len(w) - 31 {
			burst(t, w, at, math.MaxUint32)
			burst(t, w, at, 1|1<<31)
			for range 100 {
				burst(t, w, at, r.Uint32()|1|1<<31)
			}
		}
	}
}

// Bursts of each length, whatever is between their ends, in texts of any length.
func TestBurstsOfAnyLength(t *testing.T) {
	r := rand.New(rand.NewSource(7))
	for range 20000 {
		s := text(r, r.Intn(200))
		w := s + crc.Tail(s)
		n := 1 + r.Intn(32)
		mask := (r.Uint32()|1)<<(32-n)>>(32-n) | 1<<(n-1)
		burst(t, w, r.Intn(8*len(w)-n+1), mask)
	}
}

// A tail that is changed in any way is found out: of its bits none stands more than 31 behind another.
func TestTailReplaced(t *testing.T) {
	r := rand.New(rand.NewSource(8))
	for _, s := range bodies() {
		tail := crc.Tail(s)
		for range 2000 {
			if other := text(r, 4); other != tail && crc.Good(s+other) {
				t.Fatalf("%x is good with %x, not %x", s, other, tail)
			}
		}
	}
}
