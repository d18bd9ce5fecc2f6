// Package bits is layer 1, numbers and their bytes: see shared/doc/01-bits.md.
package bits

import (
	"strings"

	"jurat/api"
)

// digits holds each digit at the place of its value, so that one text serves both ways.
const digits = "0123456789abcdef"

const (
	wordBytes = 4
	maxBytes  = 8 // of a uint64
)

// Rot is x, turned to the right by n places; below 0 to the left.
func Rot(x uint32, n int) uint32 {
	right := uint(n) % 32 // of a turn to the left too: unsigned numbers wrap at a multiple of 32
	return x>>right | x<<(32-right)
}

// Word is the number of the four bytes from at on, the highest first.
func Word(b []byte, at int) (uint32, api.Errno) {
	if at < 0 || at > len(b)-wordBytes { // at + wordBytes might wrap
		return 0, api.ErrArg
	}
	return uint32(join(b[at : at+wordBytes])), api.OK
}

// Bytes are the lowest ones of n, as many as wide says, the highest first.
func Bytes(n uint64, wide int) ([]byte, api.Errno) {
	if wide < 0 || wide > maxBytes {
		return nil, api.ErrArg
	}
	b := make([]byte, wide)
	for i := range wide {
		b[wide-1-i] = byte(n >> (8 * i))
	}
	return b, api.OK
}

// Number is that of bytes, the highest first.
func Number(b []byte) (uint64, api.Errno) {
	if len(b) > maxBytes {
		return 0, api.ErrArg
	}
	return join(b), api.OK
}

// Bit is the bit i of bytes: 0 is the highest one of the first byte.
func Bit(b []byte, i int) (int, api.Errno) {
	if i < 0 || i/8 >= len(b) { // 8 * len(b) might wrap
		return 0, api.ErrArg
	}
	return int(b[i/8]>>(7-i%8)) & 1, api.OK
}

// Hex is the digits of bytes, two a byte.
func Hex(b []byte) string {
	text := make([]byte, 0, 2*len(b))
	for _, x := range b {
		text = append(text, digits[x>>4], digits[x&15])
	}
	return string(text)
}

// Unhex is the bytes whose Hex is s.
func Unhex(s string) ([]byte, api.Errno) {
	if len(s)%2 != 0 {
		return nil, api.ErrArg
	}
	b := make([]byte, len(s)/2)
	for i := range len(b) {
		high, low := digitValue(s[2*i]), digitValue(s[2*i+1])
		if high < 0 || low < 0 {
			return nil, api.ErrArg
		}
		b[i] = byte(high<<4 | low)
	}
	return b, api.OK
}

// join is the number of at most eight bytes, the highest first.
func join(b []byte) uint64 {
	var n uint64
	for _, x := range b {
		n = n<<8 | uint64(x)
	}
	return n
}

// digitValue is below 0 if c is no digit.
func digitValue(c byte) int {
	return strings.IndexByte(digits, c)
}
