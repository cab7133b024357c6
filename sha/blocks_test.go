package sha

import (
	"strings"
	"testing"
)

// Blocks are told from the left: together they are the text and its pad, and who has enough is told no more.
func TestBlocksAreTold(t *testing.T) {
	for _, n := range []int{0, 1, 55, 56, 63, 64, 65, 119, 120, 127, 128, 1000} {
		s := strings.Repeat("0123456789", n/10+1)[:n]
		all := s + Pad(n)
		var told strings.Builder
		for b := range blocks(s) {
			told.Write(b[:])
		}
		if told.String() != all {
			t.Errorf("%d bytes: %x, not %x", n, told.String(), all)
		}
		for enough := 1; enough <= len(all)/size; enough++ {
			c := 0
			for b := range blocks(s) {
				if string(b[:]) != all[c*size:(c+1)*size] {
					t.Errorf("%d bytes, block %d: %x", n, c, b)
				}
				if c++; c == enough {
					break
				}
			}
		}
	}
}
