package trace_test

import (
	"strings"
	"testing"

	"offshoot/api"
	"offshoot/sha"
	"offshoot/trace"
)

// Digests that were reckoned by another program, of bytes that are written down.
func TestDigests(t *testing.T) {
	for _, x := range []struct {
		r     api.Run
		bytes string
		hex   string
	}{
		{ended(0, 3), "\x00\x00\x06", "7468edd8a96099b99f21582ed155b4287dca0d5712bf989b52decc0380ce97a1"},
		{api.Run{}, "\x00\x00\x00", "709e80c88487a2411e1ee4dfb9f22a861492d20c4765150c0c794abd70f8147c"},
		{ended(4, 0), "\x00\x08\x00", "8fbc8920b6c6d42b4cf062cdba7bdc1fb2086f9247c00dbd536ff9332f98b6cb"},
		{ended(0, -64, set(1, -1, 64), set(2, 7, 0)), "\x02\x02\x01\x80\x01\x04\x0e\x00\x00\x7f", "69e12d0287c10cf6a43fc1f4c263f418adad33db22fc24f04921f77c93d21481"},
	} {
		tells(t, x.r, x.bytes)
		if d := trace.Digest(x.r); len(d) != 32 || sha.Hex(d) != x.hex {
			t.Errorf("%v: %d bytes, %x, not %s", x.r, len(d), d, x.hex)
		}
	}
}

// long is a run that has so many bytes, and these: all its events are alike, and its value takes what is left.
func long(n int) (api.Run, string) {
	for _, head := range []struct {
		size  int
		bytes func(n int) string
	}{
		{1, func(n int) string { return string([]byte{byte(n)}) }},
		{2, func(n int) string { return string([]byte{byte(n) | 128, byte(n >> 7)}) }},
	} {
		left := n - head.size - 1
		many, rest := (left-1)/3, []written{{63, "\x7e"}, {64, "\x80\x01"}, {8192, "\x80\x80\x01"}}[(left-1)%3]
		if (many < 128) == (head.size == 1) {
			return ended(3, rest.n, same(many, set(7, -1, -1))...), join(head.bytes(many), strings.Repeat("\x0e\x01\x01", many), "\x06", rest.bytes)
		}
	}
	return api.Run{}, ""
}

// Digest is sha.Sum of Bytes, of each length: on either side of what sha takes at a time (55, 56, 63, 64, 65), and beyond many of them.
func TestLengths(t *testing.T) {
	seen := map[int]bool{}
	for n := 3; n <= 1100; n++ {
		r, want := long(n)
		if len(want) == 0 && len(r.Events) == 0 { // a number of events that takes a byte more, where one less is too few
			continue
		}
		if len(want) != n {
			t.Fatalf("%d bytes, not %d", len(want), n)
		}
		seen[n] = true
		tells(t, r, want)
		if s, d := trace.Bytes(r), trace.Digest(r); len(s) != n || d != sha.Sum(s) || d != digest(want) {
			t.Fatalf("%d bytes, not %d: %x", len(s), n, d)
		}
	}
	for _, n := range []int{3, 55, 56, 57, 63, 64, 65, 119, 120, 121, 127, 128, 129, 183, 184, 191, 192, 193, 1023, 1024, 1025} {
		if !seen[n] {
			t.Errorf("no run of %d bytes", n)
		}
	}
	if len(seen) < 1095 {
		t.Errorf("only %d lengths", len(seen))
	}
}

// One byte that is another one, wherever it stands, makes another digest.
func TestOneByte(t *testing.T) {
	seen := map[string]string{}
	for n := range 60 {
		for _, field := range []int{0, 1, 2} {
			l := make([]api.Event, 60)
			*[]*int{&l[n].Var, &l[n].At, &l[n].Value}[field] = 1
			r := ended(0, 0, l...)
			if was, is := seen[trace.Digest(r)]; is {
				t.Errorf("%x and %x have one digest", was, trace.Bytes(r))
			}
			seen[trace.Digest(r)] = trace.Bytes(r)
		}
	}
}
