package word_test

import (
	"math"
	"math/big"
	"testing"

	"typecase/word"
)

const (
	least = uint32(1 << 31)
	all   = uint32(1<<32 - 1)
)

// edges are words at which signs, halves and noughts change.
var edges = []uint32{0, 1, 2, 3, 7, 8, 0x7FE, 0x7FF, 0x800, 0x801, 0xFFF, 0x1000, 0x17FF, 0x1800, 0xFFFF, 0x10000,
	0x12345678, 0x7FFFF7FF, 0x7FFFF800, 0x7FFFFFFF, least, least + 1, 0x9ABCDEF0, 0xFFFFF000, 0xFFFFF7FF, 0xFFFFF800, 0xFFFFF801, all - 1, all}

func TestSign(t *testing.T) {
	for _, c := range []struct {
		x    uint32
		bits int
		want int32
	}{
		{255, 8, -1}, {127, 8, 127}, {128, 8, -128}, {0x180, 8, -128}, {1, 1, -1}, {2, 1, 0},
		{5, 0, 0}, {all, 0, 0}, {5, -1, 0}, {5, math.MinInt, 0},
		{least, 32, math.MinInt32}, {all, 32, -1}, {least, 31, 0}, {least, 33, math.MinInt32}, {7, math.MaxInt, 7},
	} {
		if got := word.Sign(c.x, c.bits); got != c.want {
			t.Errorf("P1.1: Sign(%#x, %d) = %d, want %d", c.x, c.bits, got, c.want)
		}
	}
}

func TestFits(t *testing.T) {
	for _, c := range []struct {
		v    int32
		bits int
		want bool
	}{
		{127, 8, true}, {128, 8, false}, {-128, 8, true}, {-129, 8, false},
		{0, 0, true}, {1, 0, false}, {-1, 0, false}, {0, -9, true}, {-1, 1, true}, {1, 1, false},
		{math.MaxInt32, 32, true}, {math.MinInt32, 32, true}, {math.MinInt32, 31, false}, {math.MaxInt32, 99, true},
		{2047, 12, true}, {2048, 12, false}, {-2048, 12, true}, {-2049, 12, false},
	} {
		if got := word.Fits(c.v, c.bits); got != c.want {
			t.Errorf("P1.1: Fits(%d, %d) = %v", c.v, c.bits, got)
		}
	}
}

func TestField(t *testing.T) {
	for _, c := range []struct {
		x         uint32
		low, bits int
		want      uint32
	}{
		{0xF0F0, 4, 8, 0x0F}, {all, 0, 32, all}, {all, 0, 33, all}, {all, 0, 0, 0}, {all, 0, -4, 0},
		{least, 31, 1, 1}, {least, 31, 7, 1}, {all, 28, 8, 15}, {all, 32, 1, 0}, {all, math.MaxInt, 32, 0},
		{7, -1, 2, 3}, {7, math.MinInt, 2, 3}, {0x12345678, 8, 12, 0x456}, {9, 0, math.MaxInt, 9}, {9, 0, math.MinInt, 0},
	} {
		if got := word.Field(c.x, c.low, c.bits); got != c.want {
			t.Errorf("P1.1: Field(%#x, %d, %d) = %#x, want %#x", c.x, c.low, c.bits, got, c.want)
		}
	}
}

func TestHiLo(t *testing.T) {
	for _, x := range edges {
		hi, lo := word.Hi(x), word.Lo(x)
		if lo != word.Sign(x, 12) || lo < -2048 || lo > 2047 {
			t.Errorf("P1.2: Lo(%#x) = %d", x, lo)
		}
		if hi >= 1<<20 || hi*4096+uint32(lo) != x {
			t.Errorf("P1.2: Hi(%#x) = %#x, Lo = %d", x, hi, lo)
		}
	}
	if word.Hi(0x800) != 1 || word.Lo(0x800) != -2048 || word.Hi(0xFFFFF800) != 0 || word.Hi(0xFFFFF7FF) != 0xFFFFF {
		t.Error("P1.2: examples")
	}
}

// number is what a word stands for, signed or not.
func number(x uint32, signed bool) *big.Int {
	if signed {
		return big.NewInt(int64(int32(x)))
	}
	return big.NewInt(int64(x))
}

// lowest is the word that a number is, modulo 2^32.
func lowest(x *big.Int) uint32 {
	return uint32(new(big.Int).And(x, big.NewInt(1<<32-1)).Uint64())
}

func TestMulHigh(t *testing.T) {
	for _, a := range edges {
		for _, b := range edges {
			for _, signed := range [][2]bool{{false, false}, {true, false}, {false, true}, {true, true}} {
				product := new(big.Int).Mul(number(a, signed[0]), number(b, signed[1]))
				want := lowest(product.Rsh(product, 32))
				if got := word.MulHigh(a, b, signed[0], signed[1]); got != want {
					t.Errorf("P1.3: MulHigh(%#x, %#x, %v) = %#x, want %#x", a, b, signed, got, want)
				}
			}
		}
	}
}

func TestDivRem(t *testing.T) {
	for _, a := range edges {
		for _, b := range edges {
			for _, signed := range []bool{false, true} {
				wantQ, wantR := all, a
				if b != 0 {
					q, r := new(big.Int).QuoRem(number(a, signed), number(b, signed), new(big.Int))
					wantQ, wantR = lowest(q), lowest(r)
				}
				q, r := word.Div(a, b, signed), word.Rem(a, b, signed)
				if q != wantQ || r != wantR {
					t.Errorf("P1.3: %#x by %#x, signed %v: %#x, %#x, want %#x, %#x", a, b, signed, q, r, wantQ, wantR)
				}
				if q*b+r != a {
					t.Errorf("P1.4: %#x by %#x, signed %v: %#x, %#x", a, b, signed, q, r)
				}
			}
		}
	}
	if word.Div(7, 0, true) != all || word.Div(least, all, true) != least || word.Rem(least, all, true) != 0 {
		t.Error("P1.3: examples")
	}
}
