// Package num is layer 1: it lays numbers into octets.
package num

import (
	"math/bits"

	"tryst/api"
)

// mostPacked is how many octets the greatest number takes, packed: nine of 7 bits each, and one of a single bit.
const mostPacked = 10

// Put is a number's octets, so many wide.
func Put(n uint64, wide int) (string, api.Errno) {
	if wide < 1 || wide > api.MaxWide || bits.Len64(n) > 8*wide {
		return "", api.ErrArg
	}
	octets := make([]byte, wide)
	for i := range wide {
		octets[wide-1-i] = byte(n >> (8 * i))
	}
	return string(octets), api.OK
}

// Get is octets' number.
func Get(s string) (uint64, api.Errno) {
	if len(s) < 1 || len(s) > api.MaxWide {
		return 0, api.ErrArg
	}
	var n uint64
	for i := range len(s) {
		n = n<<8 | uint64(s[i])
	}
	return n, api.OK
}

// Pack is a number's packed octets.
func Pack(n uint64) string {
	last := packedWide(n) - 1
	octets := make([]byte, last+1)
	for i := range last {
		octets[i] = byte(n&127) | 128
		n >>= 7
	}
	octets[last] = byte(n)
	return string(octets)
}

// packedWide is how many octets a number takes, packed: 0 takes one, too.
func packedWide(n uint64) int { return (bits.Len64(n|1) + 6) / 7 }

// Unpack is the number with which octets begin.
func Unpack(s string) (uint64, int, api.Errno) {
	var n uint64
	for i := range min(len(s), mostPacked) {
		n |= uint64(s[i]&127) << (7 * i)
		if s[i] >= 128 {
			continue
		}
		if !mayEnd(i, s[i]) {
			return 0, 0, api.ErrForm
		}
		return n, i + 1, api.OK
	}
	if len(s) < mostPacked {
		return 0, 0, api.ErrShort
	}
	return 0, 0, api.ErrForm
}

// mayEnd tells whether a number may end with that octet in that place: an octet 0 behind others is one too many, and the last place has room for one bit alone.
func mayEnd(place int, octet byte) bool {
	if place == mostPacked-1 {
		return octet == 1
	}
	return place == 0 || octet != 0
}

// Fold is a signed number's number.
func Fold(n int64) uint64 {
	if n < 0 {
		return ^(uint64(n) << 1)
	}
	return uint64(n) << 1
}

// Unfold is a number's signed number.
func Unfold(n uint64) int64 {
	if n&1 == 1 {
		return ^int64(n >> 1)
	}
	return int64(n >> 1)
}
