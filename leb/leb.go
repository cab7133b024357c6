// Package leb is layer 1: numbers in groups of seven bits (see shared/doc/01-leb.md).
package leb

import (
	"iter"

	"offshoot/api"
)

const (
	// bits is how many bits of a number one byte tells.
	bits = 7
	// more is what a byte has beyond its digit, if another one stands behind it.
	more = 1 << bits
	// most is how many bytes 2^64 - 1 has.
	most = 10
)

// Put is a number's bytes.
func Put(n uint64) string {
	b := make([]byte, 0, most)
	for d := range digits(n) {
		b = append(b, d)
	}
	return string(b)
}

// Get is the number that stands at a place, and the place behind it.
func Get(s string, at int) (uint64, int, api.Errno) {
	if at < 0 || at > len(s) {
		return 0, at, api.ErrArg
	}
	var n uint64
read:
	for i := range most {
		if at+i == len(s) {
			return 0, at, api.ErrShort
		}
		b := s[at+i]
		n |= uint64(b%more) << (bits * i)
		to := at + i + 1
		switch {
		case b >= more:
			continue read
		case Put(n) != s[at:to]: // finds both: a longer form than n needs, and bits that are lost beyond the 64th
			break read
		}
		return n, to, api.OK
	}
	return 0, at, api.ErrNumber
}

// Size is how many bytes a number has.
func Size(n uint64) int {
	c := 0
	for range digits(n) {
		c++
	}
	return c
}

// digits tells a number's bytes from the left. Put and Size both go by it, so that they can't tell different lengths.
func digits(n uint64) iter.Seq[byte] {
	return func(yield func(byte) bool) {
		rest := n
		for rest >= more {
			if !yield(byte(rest%more) + more) {
				return
			}
			rest /= more
		}
		yield(byte(rest))
	}
}
