// Package packing packs bytes as they come, and unpacks them.
package packing

import "math/bits"

const (
	headFirst  = 120
	headSecond = 1
	headLength = 2
	sumLength  = 4
)

const (
	kindPlain = 0
	kindCoded = 1
)

const (
	endCode           = 256
	firstLengthCode   = 257
	longestCode       = 285
	lastDistanceCode  = 29
	distanceCodeWidth = 5
)

const (
	shortest = 3
	longest  = 258
	farthest = 32768
)

// symbolBits tells the bits of a code, the highest first, and how many.
func symbolBits(code int) (int, int) {
	switch {
	case code < 144:
		return 0b00110000 + code, 8
	case code < 256:
		return 0b110010000 + code - 144, 9
	case code < 280:
		return code - 256, 7
	default:
		return 0b11000000 + code - 280, 8
	}
}

// lengthCode tells the code of a length, its more bits, and how many.
func lengthCode(n int) (int, int, int) {
	m := n - shortest
	switch {
	case n == longest:
		return longestCode, 0, 0
	case m < 8:
		return firstLengthCode + m, 0, 0
	}
	// Four codes share a width, so the two bits below the highest choose.
	width := bits.Len(uint(m)) - 3
	return firstLengthCode + 4*width + m>>width, m & (1<<width - 1), width
}

// lengthStart tells the least length of a code, and how many more bits it has.
func lengthStart(code int) (int, int) {
	k := code - firstLengthCode
	switch {
	case code == longestCode:
		return longest, 0
	case k < 8:
		return shortest + k, 0
	}
	width := k/4 - 1
	return shortest + (4+k%4)<<width, width
}

// distanceCode tells the code of a distance, its more bits, and how many.
func distanceCode(d int) (int, int, int) {
	m := d - 1
	if m < 4 {
		return m, 0, 0
	}
	// Two codes share a width, so the bit below the highest chooses.
	width := bits.Len(uint(m)) - 2
	return 2*width + m>>width, m & (1<<width - 1), width
}

// distanceStart tells the least distance of a code, and how many more bits it has.
func distanceStart(code int) (int, int) {
	if code < 4 {
		return 1 + code, 0
	}
	width := code/2 - 1
	return 1 + (2+code%2)<<width, width
}
