// Package crc: sums: see ../shared/doc/01-crc.md.
package crc

import "cordwood/api"

const (
	// The polynomial, and every rest by it, has its bits turned round: the highest bit stands for x^0, the lowest for x^31.
	polynomial = 0x82f63b78
	one        = 1 << 31 // x^0
	byteOn     = 1 << 23 // x^8: what a sum is multiplied by for a byte that comes behind

	sumLen  = 4
	maxJoin = 1 << 20
)

// What the low and the high half of a byte come to, eight bits further on. Two short tables stand for the one of 256 that is usual, as the rest of a sum is the sum of the rests.
var (
	lowHalf = [16]uint32{
		0x00000000, 0xf26b8303, 0xe13b70f7, 0x1350f3f4, 0xc79a971f, 0x35f1141c, 0x26a1e7e8, 0xd4ca64eb,
		0x8ad958cf, 0x78b2dbcc, 0x6be22838, 0x9989ab3b, 0x4d43cfd0, 0xbf284cd3, 0xac78bf27, 0x5e133c24,
	}
	highHalf = [16]uint32{
		0x00000000, 0x105ec76f, 0x20bd8ede, 0x30e349b1, 0x417b1dbc, 0x5125dad3, 0x61c69362, 0x7198540d,
		0x82f63b78, 0x92a8fc17, 0xa24bb5a6, 0xb21572c9, 0xc38d26c4, 0xd3d3e1ab, 0xe330a81a, 0xf36e6f75,
	}
)

// Of is the sum of the parts, one behind the other.
func Of(parts ...[]byte) uint32 {
	var sum uint32
	for _, p := range parts {
		sum = More(sum, p)
	}
	return sum
}

// More is the sum of a text whose sum this is, with b behind.
func More(sum uint32, b []byte) uint32 {
	rest := ^sum
	for _, c := range b {
		c ^= byte(rest)
		rest = rest>>8 ^ lowHalf[c&15] ^ highHalf[c>>4]
	}
	return ^rest
}

// Seal is b with its sum behind.
func Seal(b []byte) []byte {
	sealed := make([]byte, len(b), len(b)+sumLen)
	copy(sealed, b)
	sum := Of(b)
	return append(sealed, byte(sum), byte(sum>>8), byte(sum>>16), byte(sum>>24))
}

// Open is what was sealed, if the sum behind it is its own.
func Open(b []byte) ([]byte, error) {
	n := len(b) - sumLen
	if n < 0 {
		return nil, api.ErrEnd
	}
	s := b[n:]
	if Of(b[:n]) != uint32(s[0])|uint32(s[1])<<8|uint32(s[2])<<16|uint32(s[3])<<24 {
		return nil, api.ErrSum
	}
	ahead := make([]byte, n)
	copy(ahead, b)
	return ahead, nil
}

// Join is the sum of a text whose sum is a with one of n bytes behind it whose sum is b; 0 if n is outside of 0 to 2^20.
func Join(a, b uint32, n int) uint32 {
	if n < 0 || n > maxJoin {
		return 0
	}
	// The ones that each sum begins with and is turned over by cancel one another, so that a has just to be moved n bytes on.
	return product(a, bytesOn(n)) ^ b
}

// bytesOn is the rest of x^(8n).
func bytesOn(n int) uint32 {
	power, square := uint32(one), uint32(byteOn)
	for ; n > 0; n >>= 1 {
		if n&1 == 1 {
			power = product(power, square)
		}
		square = product(square, square)
	}
	return power
}

// product is the rest of a times b.
func product(a, b uint32) uint32 {
	var p uint32
	for ; a != 0; a <<= 1 {
		if a&one != 0 {
			p ^= b
		}
		b = b>>1 ^ (b&1)*polynomial
	}
	return p
}
