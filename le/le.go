// Package le is layer 1: numbers, as bytes.
package le

import "math/bits"

const (
	groupBits = 7
	more      = 1 << groupBits // set in each byte but the last one
	maxGroups = 10             // as many groups as 64 bits have
	byteBits  = 8
	wordBytes = 4
)

// Put is a number as bytes: its groups of seven bits, the lowest first, as few as tell it.
func Put(n uint64) []byte {
	behind := groupsBehind(n)
	b := make([]byte, 0, behind+1)
	for range behind {
		b = append(b, byte(n)|more)
		n >>= groupBits
	}
	return append(b, byte(n))
}

// groupsBehind is how many groups a number has behind its first one, which is there even of 0.
func groupsBehind(n uint64) int {
	return (bits.Len64(n|1) - 1) / groupBits
}

// Get is the number whose Put bytes begin by, how many bytes that has, and whether there is one.
func Get(b []byte) (uint64, int, bool) {
	var n uint64
groups:
	for i := range min(len(b), maxGroups) {
		group, shift := uint64(b[i])%more, groupBits*i
		n |= group << shift
		switch {
		case b[i] >= more:
			continue groups
		case i > 0 && group == 0: // Put tells the same number without this group
			break groups
		case group<<shift>>shift != group: // no number of 64 bits has these
			break groups
		}
		return n, i + 1, true
	}
	return 0, 0, false
}

// Zig is a number as one that is not below 0, small where it is near 0.
func Zig(n int) uint64 {
	if n < 0 {
		return 2*-uint64(n) - 1
	}
	return 2 * uint64(n)
}

// Zag is the number whose Zig is n.
func Zag(n uint64) int {
	half := int(n / 2)
	if n%2 == 1 {
		return -half - 1 // not -(half + 1): that sum is too great for the lowest number
	}
	return half
}

// Word is a number as four bytes, the lowest first.
func Word(n uint32) []byte {
	b := make([]byte, wordBytes)
	for i := range b {
		b[i] = byte(n >> (byteBits * i))
	}
	return b
}

// Read is the number whose Word the bytes are, and whether there is one.
func Read(b []byte) (uint32, bool) {
	if len(b) != wordBytes {
		return 0, false
	}
	var n uint32
	for i := range wordBytes {
		n |= uint32(b[i]) << (byteBits * i)
	}
	return n, true
}
