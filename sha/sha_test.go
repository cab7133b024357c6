package sha_test

import (
	"crypto/sha256"
	"encoding/hex"
	"math"
	"math/big"
	"math/rand"
	"slices"
	"strings"
	"sync"
	"testing"

	"offshoot/sha"
)

// sums are texts and their digests, known from elsewhere.
func sums() map[string]string {
	return map[string]string{
		"":    "e3b0c44298fc1c149afbf4c8996fb92427ae41e4649b934ca495991b7852b855",
		"abc": "ba7816bf8f01cfea414140de5dae2223b00361a396177a9cb410ff61f20015ad",
		"abcdbcdecdefdefgefghfghighijhijkijkljklmklmnlmnomnopnopq":                                                         "248d6a61d20638b8e5c026930c3e6039a33ce45964ff2167f6ecedd419db06c1",
		"abcdefghbcdefghicdefghijdefghijkefghijklfghijklmghijklmnhijklmnoijklmnopjklmnopqklmnopqrlmnopqrsmnopqrstnopqrstu": "cf5b16a778af8380036ce59e7b0492370b249b11e8f07a51afac45037afee9d1",
		"The quick brown fox jumps over the lazy dog":                                                                      "d7a8fbb307d7809469ca9abcb0082e4f8d5651e46d3cdb762d02d0bf37c9e592",
		strings.Repeat("a", 1000000):                                                                                       "cdc76e5c9914fb9281a1c7e284d73e67f1809a48a497200e046d39ccc7112cd0",
	}
}

// edges are the lengths at which a text and its pad come to one block more, and those beside them.
func edges() []int {
	return []int{0, 1, 2, 54, 55, 56, 57, 62, 63, 64, 65, 118, 119, 120, 121, 127, 128, 129, 183, 184, 191, 192, 193, 1000, 4096}
}

// text is a text of n bytes by chance.
func text(r *rand.Rand, n int) string {
	b := make([]byte, n)
	r.Read(b)
	return string(b)
}

// texts are ordinary ones and the edges, by chance and of one byte only.
func texts() []string {
	var l []string
	for s := range sums() {
		l = append(l, s)
	}
	r := rand.New(rand.NewSource(1))
	for n := range 200 {
		l = append(l, text(r, n))
	}
	for _, n := range edges() {
		l = append(l, text(r, n), strings.Repeat("\x00", n), strings.Repeat("\xff", n), strings.Repeat("\x80", n))
	}
	return l
}

// short are those of texts that are quickly gone through, block by block.
func short() []string {
	return slices.DeleteFunc(texts(), func(s string) bool { return len(s) > 5000 })
}

// primes are the first n primes.
func primes(n int) []int64 {
	var l []int64
	for p := int64(2); len(l) < n; p++ {
		if big.NewInt(p).ProbablyPrime(0) {
			l = append(l, p)
		}
	}
	return l
}

// behindPoint is the first 32 bits behind the point of the k-th root of p, found by halving: the greatest x that has x^k not above p * 2^32k.
func behindPoint(p int64, k int64) uint32 {
	most := new(big.Int).Lsh(big.NewInt(p), uint(32*k))
	low, high := big.NewInt(0), new(big.Int).Lsh(big.NewInt(1), 42)
	for {
		x := new(big.Int).Rsh(new(big.Int).Add(low, high), 1)
		switch {
		case x.Cmp(low) == 0:
			return uint32(low.Uint64())
		case new(big.Int).Exp(x, big.NewInt(k), nil).Cmp(most) > 0:
			high = x
		default:
			low = x
		}
	}
}

// cubes are the words k(t), reckoned from the primes.
func cubes() []uint32 {
	var l []uint32
	for _, p := range primes(64) {
		l = append(l, behindPoint(p, 3))
	}
	return l
}

// turned is a word turned right, bit by bit.
func turned(x uint32, k int) uint32 {
	for range k {
		x = x/2 + x%2*(1<<31)
	}
	return x
}

// two are the bits that two of three words have set at least.
func two(a, b, c uint32) uint32 {
	var w uint32
	for i := range 32 {
		if (a>>i&1)+(b>>i&1)+(c>>i&1) >= 2 {
			w |= 1 << i
		}
	}
	return w
}

// wordsTold are a block's words by the chapter.
func wordsTold(b [64]byte) []uint32 {
	var w []uint32
	for i := 0; i < 64; i += 4 {
		w = append(w, uint32(b[i])*(1<<24)+uint32(b[i+1])*(1<<16)+uint32(b[i+2])*(1<<8)+uint32(b[i+3]))
	}
	for t := 16; t < 64; t++ {
		x, y := w[t-15], w[t-2]
		s0 := turned(x, 7) ^ turned(x, 18) ^ x/8
		s1 := turned(y, 17) ^ turned(y, 19) ^ y/1024
		w = append(w, w[t-16]+s0+w[t-7]+s1)
	}
	return w
}

// told is the state behind a block by the chapter's words, with k(t) as reckoned from the primes.
func told(k []uint32, s sha.State, block [64]byte) sha.State {
	w := wordsTold(block)
	a, b, c, d, e, f, g, h := s.H[0], s.H[1], s.H[2], s.H[3], s.H[4], s.H[5], s.H[6], s.H[7]
	for t := range 64 {
		s1 := turned(e, 6) ^ turned(e, 11) ^ turned(e, 25)
		ch := (e & f) | (^e & g)
		t1 := h + s1 + ch + k[t] + w[t]
		s0 := turned(a, 2) ^ turned(a, 13) ^ turned(a, 22)
		t2 := s0 + two(a, b, c)
		h = g
		g = f
		f = e
		e = d + t1
		d = c
		c = b
		b = a
		a = t1 + t2
	}
	return sha.State{H: [8]uint32{s.H[0] + a, s.H[1] + b, s.H[2] + c, s.H[3] + d, s.H[4] + e, s.H[5] + f, s.H[6] + g, s.H[7] + h}}
}

// states are such as have all bits, none, single bits, one word only; the first one; and more by chance.
func states() []sha.State {
	var all sha.State
	for i := range all.H {
		all.H[i] = math.MaxUint32
	}
	l := []sha.State{{}, all, sha.Start()}
	r := rand.New(rand.NewSource(2))
	for i := range 8 {
		var one, without, chance sha.State
		one.H[i], without = math.MaxUint32, all
		without.H[i] = 0
		for j := range chance.H {
			chance.H[j] = r.Uint32()
		}
		var bit sha.State
		bit.H[i] = 1 << (4 * i)
		l = append(l, one, without, chance, bit)
	}
	return l
}

// blocks are such as have all bits, none, each single byte set, single bits, and more by chance.
func blocks() [][64]byte {
	var all [64]byte
	for i := range all {
		all[i] = 255
	}
	l := [][64]byte{{}, all}
	r := rand.New(rand.NewSource(3))
	for i := range 64 {
		var one, bit, chance [64]byte
		one[i], bit[i] = 255, 1<<(i%8)
		r.Read(chance[:])
		l = append(l, one, bit, chance)
	}
	return l
}

func TestKnownSums(t *testing.T) {
	for s, w := range sums() {
		if h := sha.Hex(sha.Sum(s)); h != w {
			t.Errorf("of %d bytes: %s, not %s", len(s), h, w)
		}
	}
}

// Sum tells what another program tells, a digest has 32 bytes, and it is told again.
func TestSum(t *testing.T) {
	for _, s := range texts() {
		w := sha256.Sum256([]byte(s))
		for range 2 {
			if d := sha.Sum(s); d != string(w[:]) || len(d) != 32 {
				t.Errorf("of %d bytes, %.80x: %x, not %x", len(s), s, d, w)
			}
		}
	}
}

func TestSumOfALongText(t *testing.T) {
	s := text(rand.New(rand.NewSource(4)), 1<<22+17)
	if w := sha256.Sum256([]byte(s)); sha.Sum(s) != string(w[:]) {
		t.Errorf("%x, not %x", sha.Sum(s), w)
	}
}

// A text is told block by block: its digest is the bytes of what the first state comes to behind the blocks of the text and its pad, from the left.
func TestSumGoesBlockByBlock(t *testing.T) {
	k := cubes()
	for _, s := range short() {
		all := s + sha.Pad(len(s))
		if len(all)%64 != 0 {
			t.Fatalf("%d bytes with their pad: %d", len(s), len(all))
		}
		state, words := sha.Start(), sha.Start()
		for i := 0; i < len(all); i += 64 {
			b := [64]byte([]byte(all[i : i+64]))
			state, words = state.Block(b), told(k, words, b)
		}
		if state != words || sha.Sum(s) != state.Bytes() {
			t.Fatalf("%d bytes: %x, block by block %x, by the words %x", len(s), sha.Sum(s), state.Bytes(), words.Bytes())
		}
	}
}

// Texts that one who pads otherwise takes for the same have other digests.
func TestSumOfLikeTexts(t *testing.T) {
	seen := map[string]string{}
	for _, n := range edges() {
		s := strings.Repeat("\x00", n)
		for _, x := range []string{s, s + "\x80", s + sha.Pad(n), "\x80" + s} {
			d := sha.Sum(x)
			if other, ok := seen[d]; ok && other != x {
				t.Errorf("%x, of texts of %d and %d bytes", d, len(other), len(x))
			}
			seen[d] = x
		}
	}
}

func TestStart(t *testing.T) {
	for i, p := range primes(8) {
		if h := sha.Start().H[i]; h != behindPoint(p, 2) {
			t.Errorf("word %d: %08x, not %08x", i, h, behindPoint(p, 2))
		}
	}
	s := sha.Start()
	s.H[0], s.H[7] = 0, 0
	if sha.Start().H[0] != 0x6a09e667 || sha.Start().H[7] != 0x5be0cd19 {
		t.Error("changed by who changes an answer")
	}
}

func TestBlock(t *testing.T) {
	k := cubes()
	for _, s := range states() {
		for _, b := range blocks() {
			if n, w := s.Block(b), told(k, s, b); n != w {
				t.Fatalf("%08x behind %x: %08x, not %08x", s.H, b, n.H, w.H)
			}
		}
	}
}

// A state is a value: no call changes it, nor the block; who kept its methods keeps them as they were.
func TestStatesAreValues(t *testing.T) {
	r := rand.New(rand.NewSource(5))
	for _, s := range states() {
		was, b := s, [64]byte([]byte(text(r, 64)))
		block, bytes, stood := s.Block, s.Bytes, b
		behind, told := s.Block(b), s.Bytes()
		if s != was || b != stood {
			t.Fatalf("%08x: changed to %08x", was.H, s.H)
		}
		s = behind.Block(b)
		if block(b) != behind || bytes() != told || block(b) != behind || bytes() != told {
			t.Fatalf("%08x: %08x %x, not %08x %x", was.H, block(b).H, bytes(), behind.H, told)
		}
	}
}

func TestBytes(t *testing.T) {
	s := sha.State{H: [8]uint32{0x01020304, 0x05060708, 0x090a0b0c, 0x0d0e0f10, 0x80ff007f, 0, math.MaxUint32, 1}}
	w := "\x01\x02\x03\x04\x05\x06\x07\x08\x09\x0a\x0b\x0c\x0d\x0e\x0f\x10\x80\xff\x00\x7f\x00\x00\x00\x00\xff\xff\xff\xff\x00\x00\x00\x01"
	if b := s.Bytes(); b != w {
		t.Errorf("%x, not %x", b, w)
	}
	for _, s := range states() {
		b := s.Bytes()
		if len(b) != 32 {
			t.Fatalf("%08x: %d bytes", s.H, len(b))
		}
		for i, h := range s.H {
			if n := new(big.Int).SetBytes([]byte(b[4*i : 4*i+4])); n.Uint64() != uint64(h) {
				t.Fatalf("word %d of %08x: %v in %x", i, s.H, n, b)
			}
		}
	}
}

// numbers are lengths for Pad: all small ones, the edges, and those at which 8n goes round or nearly so.
func numbers() []int {
	var l []int
	for n := range 600 {
		l = append(l, n, math.MaxInt-n)
	}
	for k := range 63 {
		for d := -70; d <= 70; d++ {
			if n := 1<<k + d; n > 0 {
				l = append(l, n)
			}
		}
	}
	return append(l, math.MaxInt32, math.MaxUint32, math.MaxInt/8, math.MaxInt/8+1)
}

// A pad is 128, as few noughts as may be, and 8n in eight bytes; with n bytes it is a multiple of 64.
func TestPad(t *testing.T) {
	for _, n := range numbers() {
		p := sha.Pad(n)
		size, eight := big.NewInt(int64(n)), new(big.Int)
		size.Add(size, big.NewInt(int64(len(p))))
		eight.Mul(big.NewInt(int64(n)), big.NewInt(8)).And(eight, new(big.Int).SetUint64(math.MaxUint64))
		switch noughts := len(p) - 9; {
		case noughts < 0 || noughts > 63 || p[0] != 128:
			t.Fatalf("%d: %x", n, p)
		case new(big.Int).And(size, big.NewInt(63)).Sign() != 0:
			t.Fatalf("%d: %d bytes, %v in all", n, len(p), size)
		case p[1:1+noughts] != strings.Repeat("\x00", noughts):
			t.Fatalf("%d: other bytes than noughts in %x", n, p)
		case new(big.Int).SetBytes([]byte(p[1+noughts:])).Cmp(eight) != 0:
			t.Fatalf("%d: %x tells not %v", n, p, eight)
		}
	}
}

func TestPadForms(t *testing.T) {
	for n, w := range map[int]string{
		0:               "\x80" + strings.Repeat("\x00", 63),
		55:              "\x80\x00\x00\x00\x00\x00\x00\x01\xb8",
		56:              "\x80" + strings.Repeat("\x00", 69) + "\x01\xc0",
		63:              "\x80" + strings.Repeat("\x00", 62) + "\x01\xf8",
		64:              "\x80" + strings.Repeat("\x00", 61) + "\x02\x00",
		119:             "\x80\x00\x00\x00\x00\x00\x00\x03\xb8",
		120:             "\x80" + strings.Repeat("\x00", 69) + "\x03\xc0",
		1 << 29:         "\x80" + strings.Repeat("\x00", 58) + "\x01\x00\x00\x00\x00",
		1 << 61:         "\x80" + strings.Repeat("\x00", 63),
		math.MaxInt:     "\x80" + strings.Repeat("\x00", 56) + strings.Repeat("\xff", 7) + "\xf8",
		math.MaxInt - 8: "\x80" + strings.Repeat("\xff", 7) + "\xb8",
	} {
		if p := sha.Pad(n); p != w {
			t.Errorf("%d: %x, not %x", n, p, w)
		}
	}
}

func TestPadBelowNought(t *testing.T) {
	for _, n := range []int{-1, -2, -8, -9, -55, -63, -64, -65, -128, math.MinInt32, math.MinInt + 1, math.MinInt} {
		if p := sha.Pad(n); p != "" {
			t.Errorf("%d: %x", n, p)
		}
	}
}

func TestHex(t *testing.T) {
	for s, w := range map[string]string{"": "", "\x00": "00", "\x09\x0a\x0f\x10": "090a0f10", "\x00\xfa": "00fa", "\x9f\xa9\xff": "9fa9ff", "é": "c3a9"} {
		if h := sha.Hex(s); h != w {
			t.Errorf("%q: %q, not %q", s, h, w)
		}
	}
	for b := range 256 {
		s := string([]byte{byte(b)})
		if h := sha.Hex(s); h != hex.EncodeToString([]byte(s)) {
			t.Errorf("%d: %q", b, h)
		}
	}
	for _, s := range texts() {
		if h := sha.Hex(s); h != hex.EncodeToString([]byte(s)) {
			t.Fatalf("%x: %q", s, h)
		}
	}
}

// Who asks at once with others is told the same.
func TestManyAtOnce(t *testing.T) {
	l := short()
	told := make([][]string, 8)
	var wg sync.WaitGroup
	for i := range told {
		wg.Go(func() {
			for _, s := range l {
				told[i] = append(told[i], sha.Sum(s))
			}
		})
	}
	wg.Wait()
	for i := range told {
		for j, s := range l {
			if w := sha256.Sum256([]byte(s)); told[i][j] != string(w[:]) {
				t.Fatalf("%d: %x, not %x", i, told[i][j], w)
			}
		}
	}
}
