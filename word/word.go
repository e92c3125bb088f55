// Package word is layer 1: words of 32 bits. See shared/doc/01-word.md.
package word

import "cmp"

// within brings a number into a range.
func within[N cmp.Ordered](v, least, most N) N {
	switch {
	case v < least:
		v = least
		fallthrough
	case v <= most:
		return v
	default:
		return most
	}
}

// Sign: the lowest bits of a word as a signed number.
func Sign(x uint32, bits int) int32 {
	unused := 32 - within(bits, 0, 32)
	return int32(x<<unused) >> unused
}

// Fits: is it a signed number of so many bits?
func Fits(v int32, bits int) bool { return Sign(uint32(v), bits) == v }

// Field: some bits of a word.
func Field(x uint32, low, bits int) uint32 {
	mask := uint32(1)<<within(bits, 0, 32) - 1
	return x >> within(low, 0, 32) & mask
}

// Hi: the highest 20 bits that go with the lowest 12.
func Hi(x uint32) uint32 { return (x - uint32(Lo(x))) >> 12 }

// Lo: the lowest 12 bits as a signed number.
func Lo(x uint32) int32 { return Sign(x, 12) }

// MulHigh: the highest half of a product.
func MulHigh(a, b uint32, signedA, signedB bool) uint32 {
	// The lowest 64 bits of a product are the same, signed or not.
	product := uint64(widened(a, signedA)) * uint64(widened(b, signedB))
	return uint32(product >> 32)
}

func widened(x uint32, signed bool) int64 {
	if signed {
		return int64(int32(x))
	}
	return int64(x)
}

// Div: a quotient.
func Div(a, b uint32, signed bool) uint32 {
	switch {
	case b == 0:
		return 1<<32 - 1
	case signed:
		// In 64 bits the least number by -1 doesn't overflow.
		return uint32(widened(a, true) / widened(b, true))
	default:
		return a / b
	}
}

// Rem: what is left by a division.
func Rem(a, b uint32, signed bool) uint32 {
	switch {
	case b == 0:
		return a
	case signed:
		return uint32(widened(a, true) % widened(b, true))
	default:
		return a % b
	}
}
