// Package ints is layer 1: see shared/doc/01-ints.md.
package ints

const (
	// octets and wide are how many octets and bits a number has.
	octets = 8
	wide   = 64

	// turns is how many bits Turn turns; a power of two, so that a mask takes whole turns away.
	turns = 32

	// top is the greatest multiple that Up answers.
	top = 1 << 62
)

// Lay lays a number in octets.
func Lay(n, size int) []byte {
	b := make([]byte, within(size, octets))
	for i := range len(b) {
		b[i] = byte(uint64(n) >> (8 * i))
	}
	return b
}

// Get is the number of octets.
func Get(b ...byte) int {
	u := uint64(0)
	for i := range min(len(b), octets) {
		u |= uint64(b[i]) << (8 * i)
	}
	return int(u)
}

// Low has a number's low bits alone.
func Low(n, bits int) int {
	// A shift by all 64 places leaves 0, and 0 less 1 has every bit: no case of its own.
	mask := uint64(1)<<within(bits, wide) - 1
	return int(uint64(n) & mask)
}

// Signed has a number's low bits, and their greatest in all others.
func Signed(n, bits int) int {
	// The shift back is one of a number with a sign: it brings the greatest bit along.
	away := wide - within(bits, wide)
	return int(uint64(n)<<away) >> away
}

// Short: has a number so few bits?
func Short(n, bits int) bool {
	return Signed(n, bits) == n
}

// Zig is a number's zigzag.
func Zig(n int) uint64 {
	// -2 n - 1 is 2 n with all bits turned over, and n >> 63 has all bits just below 0.
	return uint64(n)<<1 ^ uint64(n>>(wide-1))
}

// Zag is the number of a zigzag.
func Zag(u uint64) int {
	return int(u>>1) ^ -int(u&1)
}

// Turn turns bits to the left.
func Turn(u uint32, by int) uint32 {
	// In two's complement the mask makes of a turn to the right the turn to the left that equals it.
	left := uint64(by) & (turns - 1)
	return u<<left | u>>(turns-left)
}

// Up is the least multiple that isn't below a number; 0: there is none.
func Up(n, to int) int {
	if n < 1 || to < 1 {
		return 0
	}
	gap := 0
	if over := n % to; over > 0 {
		gap = to - over
	}
	// Held against top less the gap: n and the gap together may be beyond an int.
	if n > top-gap {
		return 0
	}
	return n + gap
}

// Log is the greatest bit's number; -1: there is none.
func Log(u uint64) int {
	at := -1
	for ; u > 0; u >>= 1 {
		at++
	}
	return at
}

// within is n, but at least 0 and at most most.
func within(n, most int) int {
	return max(0, min(n, most))
}
