package wire_test

import (
	"math"
	"strings"
	"testing"

	"offshoot/api"
	"offshoot/leb"
	"offshoot/wire"
	"offshoot/zigzag"
)

// written are writers, and the bytes that each has, written out by hand: ordinary ones, and the edges.
func written() map[string]*wire.Writer {
	full := strings.Repeat("\xff", 9)
	return map[string]*wire.Writer{
		"":                         wire.New(),
		"\x00":                     wire.New().Byte(0),
		"\x80":                     wire.New().Byte(128),
		"\xff":                     wire.New().Byte(255),
		"\x07\x00\x07":             wire.New().Byte(7).Num(0).Byte(7),
		"\x7f":                     wire.New().Num(127),
		"\x80\x01":                 wire.New().Num(128),
		full + "\x01":              wire.New().Num(math.MaxUint64),
		"\x00\x01\x02\x03":         wire.New().Int(0).Int(-1).Int(1).Int(-2),
		"\x7f\x80\x01":             wire.New().Int(-64).Int(64),
		full + "\x01\x00":          wire.New().Int(math.MinInt).Int(0),
		"\xfe" + full[1:] + "\x01": wire.New().Int(math.MaxInt),
		"\xac\x02\x02ab":           wire.New().Num(300).Text("ab"),
		"\x00\x00":                 wire.New().Text("").Text(""),
		"\x01\x80":                 wire.New().Text("\x80"),
		"\x02\x00\x00":             wire.New().Text("\x00\x00"),
		"\xc3\xa4\x00\xff":         wire.New().Raw("\xc3").Raw("").Raw("\xa4\x00\xff"),
		"\x7f" + strings.Repeat("x", 127) + "\x80\x01" + strings.Repeat("y", 128): wire.New().
			Text(strings.Repeat("x", 127)).Text(strings.Repeat("y", 128)),
		"\x05\xac\x02\x03\x02abcde\x00": wire.New().Byte(5).Num(300).Int(-2).Text("ab").Raw("cde").Text(""),
	}
}

func TestWritten(t *testing.T) {
	for s, w := range written() {
		if got := w.Bytes(); got != s {
			t.Errorf("%x, not %x", got, s)
		}
		if got := w.Bytes(); got != s {
			t.Errorf("asked again: %x, not %x", got, s)
		}
	}
}

// Each call answers the writer itself, so that a row of calls and calls one by one come to the same.
func TestAnswersTheWriter(t *testing.T) {
	w := wire.New()
	for i, next := range []*wire.Writer{w.Byte(1), w.Num(300), w.Int(-1), w.Text("a"), w.Raw("b"), w.Raw("")} {
		if next != w {
			t.Errorf("call %d answers another one", i)
		}
	}
	if s := w.Bytes(); s != "\x01\xac\x02\x01\x01ab" {
		t.Errorf("%x", s)
	}
}

// Numbers are written as the layers below write them.
func TestWritesAsBelow(t *testing.T) {
	for _, n := range numbers() {
		if s, want := wire.New().Num(n).Bytes(), leb.Put(n); s != want {
			t.Fatalf("Num(%d): %x, not %x", n, s, want)
		}
		if s, want := wire.New().Int(int(n)).Bytes(), zigzag.Put(int(n)); s != want {
			t.Fatalf("Int(%d): %x, not %x", int(n), s, want)
		}
	}
	for n := range 300 {
		s := strings.Repeat("\x91", n)
		if got, want := wire.New().Text(s).Bytes(), leb.Put(uint64(n))+s; got != want {
			t.Fatalf("Text of %d bytes: %x, not %x", n, got, want)
		}
	}
}

func TestEachByte(t *testing.T) {
	w := wire.New()
	for b := range 256 {
		w.Byte(byte(b))
	}
	s := w.Bytes()
	for b := range 256 {
		if len(s) != 256 || s[b] != byte(b) {
			t.Fatalf("%x", s)
		}
	}
}

// What a writer told stays as it was told, and writers are apart from each other.
func TestToldStays(t *testing.T) {
	w, other := wire.New(), wire.New()
	var told []string
	for i := range 200 {
		told = append(told, w.Byte(byte(i)).Bytes())
		other.Byte(255)
	}
	for i, s := range told {
		if len(s) != i+1 || s[0] != 0 || s[i] != byte(i) {
			t.Fatalf("%d: %x", i, s)
		}
	}
	if s := other.Bytes(); s != strings.Repeat("\xff", 200) {
		t.Errorf("the other one: %x", s)
	}
	if s := wire.New().Bytes(); s != "" {
		t.Errorf("a new one: %x", s)
	}
}

func TestLongText(t *testing.T) {
	s := strings.Repeat("0123456789abcdef", 1<<17)
	got := wire.New().Text(s).Byte(9).Bytes()
	if got != "\x80\x80\x80\x01"+s+"\x09" {
		t.Fatalf("%d bytes", len(got))
	}
	r := wire.Of(got)
	if r.Text(len(s)-1) != "" || r.At() != 0 {
		t.Errorf("too long, and yet read, to %d", r.At())
	}
	r = wire.Of(got)
	if r.Text(len(s)) != s || r.At() != 4+len(s) || r.Byte() != 9 || r.End() != api.OK {
		t.Errorf("read to %d: %v", r.At(), r.End())
	}
}
