// Package sums: numbers as bytes, and the sums that ledge's bytes carry.
package sums

// CheckSize is how many bytes a check has.
const CheckSize = 4

const (
	fnvStart = 14695981039346656037
	fnvTimes = 1099511628211
)

// halves is what the polynomial 04C11DB7, its bits reflected, makes of each
// four bits. A table for whole bytes would be longer than a table may be.
var halves = [16]uint32{
	0x00000000, 0x1db71064, 0x3b6e20c8, 0x26d930ac,
	0x76dc4190, 0x6b6b51f4, 0x4db26158, 0x5005713c,
	0xedb88320, 0xf00f9344, 0xd6d6a3e8, 0xcb61b38c,
	0x9b64c2b0, 0x86d3d2d4, 0xa00ae278, 0xbdbdf21c,
}

// Check tells the CRC-32 of IEEE 802.3.
func Check[B string | []byte](b B) uint32 {
	c := ^uint32(0)
	for i := range len(b) {
		c ^= uint32(b[i])
		c = c>>4 ^ halves[c&15]
		c = c>>4 ^ halves[c&15]
	}
	return ^c
}

// Seal appends the check of all of b to it.
func Seal(b []byte) []byte {
	return AppendLow(b, int(Check(b)), CheckSize)
}

// Holds tells whether s ends with the check of what is ahead of that.
func Holds(s string) bool {
	end := len(s) - CheckSize
	return end >= 0 && Low(s[end:]) == int(Check(s[:end]))
}

// Hash tells the FNV-1a, 64 bits, of the parts as if they were joined.
func Hash(parts ...string) uint64 {
	h := uint64(fnvStart)
	for _, part := range parts {
		for i := range len(part) {
			h = (h ^ uint64(part[i])) * fnvTimes
		}
	}
	return h
}

// AppendLow appends the lowest bytes of n, so many as size says, the lowest first.
func AppendLow(b []byte, n, size int) []byte {
	for i := range size {
		b = append(b, byte(n>>(8*i)))
	}
	return b
}

// Low reads the number whose bytes are s, the lowest first.
func Low(s string) int {
	n := 0
	for i := range len(s) {
		n |= int(s[i]) << (8 * i)
	}
	return n
}
