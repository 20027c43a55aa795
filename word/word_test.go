package word_test

import (
	"math"
	"testing"

	"sallyport/word"
)

// counts: each bound of a width, a place or a number of bytes, one below it, one past it, the least and the greatest int.
var counts = []int{
	math.MinInt, math.MinInt + 1, -65, -64, -9, -8, -1,
	0, 1, 2, 3, 4, 7, 8, 9, 12, 31, 32, 33, 62, 63, 64, 65,
	math.MaxInt - 64, math.MaxInt - 8, math.MaxInt - 1, math.MaxInt,
}

var values = []uint64{
	0, 1, 2, 3, 0x7f, 0x80, 0xff, 0x180, 0xabcd, 0x7fffffff, 0x80000000, 0xffffffff, 1 << 32,
	0x0123456789abcdef, 0xfedcba9876543210, 0x5555555555555555, 0xaaaaaaaaaaaaaaaa,
	1<<62 - 1, 1 << 62, 1<<63 - 1, 1 << 63, 1<<63 + 1, math.MaxUint64 - 1, math.MaxUint64,
}

func hold(x, least, most int) int {
	if x < least {
		return least
	}
	if x > most {
		return most
	}
	return x
}

func bit(v uint64, i int) uint64 {
	for range i {
		v /= 2
	}
	return v % 2
}

// build: the word whose bit i is of(i), by doubling alone, unlike the program's shifts.
func build(of func(i int) uint64) uint64 {
	v := uint64(0)
	for i := 63; i >= 0; i-- {
		v = 2*v + of(i)
	}
	return v
}

func TestSextZextKnown(t *testing.T) {
	for _, c := range []struct {
		v          uint64
		bits       int
		sext, zext uint64
	}{
		{0xff, 8, math.MaxUint64, 0xff},
		{0x7f, 8, 0x7f, 0x7f},
		{0x1234567880, 8, 0xffffffffffffff80, 0x80},
		{0xff, 9, 0xff, 0xff},
		{0x80000000, 32, 0xffffffff80000000, 0x80000000},
		{0x7fffffff, 32, 0x7fffffff, 0x7fffffff},
		{6, 1, 0, 0},
		{7, 1, math.MaxUint64, 1},
		{7, 0, math.MaxUint64, 1},
		{7, math.MinInt, math.MaxUint64, 1},
		{1 << 62, 63, 3 << 62, 1 << 62},
		{1 << 63, 63, 0, 0},
		{1 << 63, 64, 1 << 63, 1 << 63},
		{1 << 63, 65, 1 << 63, 1 << 63},
		{1 << 63, math.MaxInt, 1 << 63, 1 << 63},
	} {
		if got := word.Sext(c.v, c.bits); got != c.sext {
			t.Errorf("P1.1: Sext(%#x, %d) = %#x, want %#x", c.v, c.bits, got, c.sext)
		}
		if got := word.Zext(c.v, c.bits); got != c.zext {
			t.Errorf("P1.1: Zext(%#x, %d) = %#x, want %#x", c.v, c.bits, got, c.zext)
		}
	}
}

func TestSextZextBitByBit(t *testing.T) {
	for _, v := range values {
		for _, bits := range counts {
			top := hold(bits, 1, 64) - 1
			sext := build(func(i int) uint64 { return bit(v, min(i, top)) })
			zext := build(func(i int) uint64 {
				if i > top {
					return 0
				}
				return bit(v, i)
			})
			if got := word.Sext(v, bits); got != sext {
				t.Errorf("P1.1: Sext(%#x, %d) = %#x, want %#x", v, bits, got, sext)
			}
			if got := word.Zext(v, bits); got != zext {
				t.Errorf("P1.1: Zext(%#x, %d) = %#x, want %#x", v, bits, got, zext)
			}
		}
	}
}

func TestBitsSetKnown(t *testing.T) {
	const v = 0x0123456789abcdef
	for _, c := range []struct {
		lo, n     int
		x         uint64
		bits, set uint64
	}{
		{4, 8, 0x77, 0xde, 0x0123456789abc77f},
		{4, 8, 0xf77, 0xde, 0x0123456789abc77f},
		{0, 0, math.MaxUint64, 0, v},
		{0, 1, 0, 1, v - 1},
		{0, 64, 5, v, 5},
		{0, 65, 5, v, 5},
		{0, 63, 1 << 63, v, 0},
		{-1, 4, 0, 0xf, 0x0123456789abcde0},
		{math.MinInt, 4, 0, 0xf, 0x0123456789abcde0},
		{4, -1, math.MaxUint64, 0, v},
		{4, math.MinInt, math.MaxUint64, 0, v},
		{56, 8, 0x1fe, 0x01, 0xfe23456789abcdef},
		{56, 9, 0x1fe, 0x01, 0xfe23456789abcdef},
		{56, math.MaxInt, 0x1fe, 0x01, 0xfe23456789abcdef},
		{63, 1, 3, 0, v | 1<<63},
		{64, 1, 3, 0, v | 1<<63},
		{math.MaxInt, math.MaxInt, 3, 0, v | 1<<63},
		{math.MaxInt, 0, 3, 0, v},
	} {
		if got := word.Bits(v, c.lo, c.n); got != c.bits {
			t.Errorf("P1.1: Bits(%#x, %d, %d) = %#x, want %#x", uint64(v), c.lo, c.n, got, c.bits)
		}
		if got := word.Set(v, c.lo, c.n, c.x); got != c.set {
			t.Errorf("P1.1: Set(%#x, %d, %d, %#x) = %#x, want %#x", uint64(v), c.lo, c.n, c.x, got, c.set)
		}
	}
}

func TestBitsSetBitByBit(t *testing.T) {
	for _, lo := range counts {
		for _, n := range counts {
			from := hold(lo, 0, 63)
			many := hold(n, 0, 64-from)
			for k, v := range values {
				bits := build(func(i int) uint64 {
					if i >= many {
						return 0
					}
					return bit(v, from+i)
				})
				if got := word.Bits(v, lo, n); got != bits {
					t.Fatalf("P1.1: Bits(%#x, %d, %d) = %#x, want %#x", v, lo, n, got, bits)
				}
				x := values[len(values)-1-k]
				set := build(func(i int) uint64 {
					if i < from || i >= from+many {
						return bit(v, i)
					}
					return bit(x, i-from)
				})
				if got := word.Set(v, lo, n, x); got != set {
					t.Fatalf("P1.1: Set(%#x, %d, %d, %#x) = %#x, want %#x", v, lo, n, x, got, set)
				}
			}
		}
	}
}

func TestGetKnown(t *testing.T) {
	for _, c := range []struct {
		b     string
		at, n int
		want  uint64
	}{
		{"\x01\x02\x03\x04\x05\x06\x07\x08\x09", 0, 8, 0x0807060504030201},
		{"\x01\x02\x03\x04\x05\x06\x07\x08\x09", 0, 9, 0x0807060504030201},
		{"\x01\x02\x03\x04\x05\x06\x07\x08\x09", 1, math.MaxInt, 0x0908070605040302},
		{"\x01\x02\x03\x04\x05\x06\x07\x08\x09", 2, 8, 0x09080706050403},
		{"\x01\x02\x03\x04\x05\x06\x07\x08\x09", 3, 2, 0x0504},
		{"\x01\x02\x03", 0, 0, 0},
		{"\x01\x02\x03", 0, -1, 0},
		{"\x01\x02\x03", 0, math.MinInt, 0},
		{"\x01\x02\x03", 0, 1, 1},
		{"\x01\x02\x03", 2, 8, 3},
		{"\x01\x02\x03", 3, 8, 0},
		{"\x01\x02\x03", 4, 8, 0},
		{"\x01\x02\x03", math.MaxInt, 8, 0},
		{"\x01\x02\x03", math.MaxInt - 7, 8, 0},
		{"\x01\x02\x03", -1, 8, 0x03020100},
		{"\x01\x02\x03", -1, 1, 0},
		{"\x01\x02\x03", -1, 2, 0x0100},
		{"\x01\x02\x03", -7, 8, 1 << 56},
		{"\x01\x02\x03", -8, 8, 0},
		{"\x01\x02\x03", -9, 8, 0},
		{"\x01\x02\x03", math.MinInt, 8, 0},
		{"\x01\x02\x03", math.MinInt, math.MinInt, 0},
		{"\x80\xff", 0, 2, 0xff80},
		{"\xc3\xa9", 1, 1, 0xa9},
		{"\xff\xff\xff\xff\xff\xff\xff\xff", 0, 8, math.MaxUint64},
		{"", 0, 8, 0},
		{"", -1, 8, 0},
		{"", math.MaxInt, math.MaxInt, 0},
		{"", math.MinInt, math.MaxInt, 0},
	} {
		if got := word.Get(c.b, c.at, c.n); got != c.want {
			t.Errorf("P1.1: Get(%q, %d, %d) = %#x, want %#x", c.b, c.at, c.n, got, c.want)
		}
	}
}

func TestGetByteByByte(t *testing.T) {
	const long = "\xf0\x0f\x80\x7f\x01\xff\x00\xc3\xa9\xfe\x10\x99\xe2\x82\xac\x08\x41\xb7"
	for size := range len(long) + 1 {
		b := long[:size]
		for _, at := range append([]int{-7, -6, size - 8, size - 7, size - 1, size, size + 1}, counts...) {
			for _, n := range counts {
				want := uint64(0)
				for i := hold(n, 0, 8) - 1; i >= 0; i-- {
					want *= 256
					if at >= -i && at < size-i {
						want += uint64(b[at+i])
					}
				}
				if got := word.Get(b, at, n); got != want {
					t.Fatalf("P1.1: Get(%q, %d, %d) = %#x, want %#x", b, at, n, got, want)
				}
			}
		}
	}
}

func TestBytes(t *testing.T) {
	const v = 0xf1e2d3c4b5a69788
	for _, c := range []struct {
		n    int
		want string
	}{
		{math.MinInt, ""},
		{-1, ""},
		{0, ""},
		{1, "\x88"},
		{2, "\x88\x97"},
		{4, "\x88\x97\xa6\xb5"},
		{7, "\x88\x97\xa6\xb5\xc4\xd3\xe2"},
		{8, "\x88\x97\xa6\xb5\xc4\xd3\xe2\xf1"},
		{9, "\x88\x97\xa6\xb5\xc4\xd3\xe2\xf1"},
		{math.MaxInt, "\x88\x97\xa6\xb5\xc4\xd3\xe2\xf1"},
	} {
		if got := word.Bytes(v, c.n); got != c.want {
			t.Errorf("P1.1: Bytes(%#x, %d) = %q, want %q", uint64(v), c.n, got, c.want)
		}
	}
	if got := word.Bytes(0, 3); got != "\x00\x00\x00" {
		t.Errorf("P1.1: Bytes(0, 3) = %q", got)
	}
}

func TestHigh(t *testing.T) {
	rising := []uint64{1 << 63, 1<<63 + 1, math.MaxUint64 - 1, math.MaxUint64, 0, 1, 2, 1 << 32, 1<<63 - 2, 1<<63 - 1}
	for i, a := range rising {
		for k, b := range rising {
			if got := word.High(a, b); got != (i < k) {
				t.Errorf("P1.1: High(%#x, %#x) = %t", a, b, got)
			}
		}
	}
}

func TestPartIsReadAgain(t *testing.T) {
	for _, lo := range counts {
		for _, n := range counts {
			for k, v := range values {
				x := values[(k*7+5)%len(values)]
				put := word.Set(v, lo, n, x)
				if got, want := word.Bits(put, lo, n), word.Bits(x, 0, hold(n, 0, 64-hold(lo, 0, 63))); got != want {
					t.Fatalf("P1.2: Bits(Set(%#x, %d, %d, %#x)) = %#x, want %#x", v, lo, n, x, got, want)
				}
				if got := word.Set(v, lo, n, word.Bits(v, lo, n)); got != v {
					t.Fatalf("P1.2: the part of %#x at %d, %d put back: %#x", v, lo, n, got)
				}
				if got := word.Set(put, lo, n, word.Bits(v, lo, n)); got != v {
					t.Fatalf("P1.2: beside its part at %d, %d, %#x is touched: %#x", lo, n, v, got)
				}
			}
		}
	}
}

func TestBytesAreReadAgain(t *testing.T) {
	for _, v := range values {
		for _, n := range counts {
			many := hold(n, 0, 8)
			want := word.Bits(v, 0, 8*many)
			if got := word.Get(word.Bytes(v, n), 0, n); got != want {
				t.Errorf("P1.2: Get(Bytes(%#x, %d)) = %#x, want %#x", v, n, got, want)
			}
			if got := word.Get("abc"+word.Bytes(v, n)+"def", 3, n); got != want {
				t.Errorf("P1.2: Get of Bytes(%#x, %d) amid others = %#x, want %#x", v, n, got, want)
			}
		}
	}
}
