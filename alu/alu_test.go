package alu_test

import (
	"math"
	"math/big"
	"math/rand"
	"testing"

	"sallyport/alu"
	"sallyport/api"
)

const (
	all   = math.MaxUint64
	least = 1 << 63
	most  = 1<<63 - 1
)

// values: both ends with and without a sign, the bits about 32 and about the loads' parts on both sides, the shifts'
// numbers, and some between.
var values = []uint64{
	0, 1, 2, 3, 5, 30, 31, 32, 33, 62, 63, 64, 65, 0x7f, 0x80, 0xff, 0x100, 0x180, 0x7fff, 0x8000, 0xffff, 0x10000, 0x18000,
	1<<31 - 1, 1 << 31, 1<<31 + 1, 1<<32 - 2, 1<<32 - 1, 1 << 32, 1<<32 + 1, 1<<32 + 31, 1<<33 - 1, 3 << 31, 1<<40 + 4,
	0x0123456789abcdef, 0xfedcba9876543210, 0x5555555555555555, 0xaaaaaaaaaaaaaaaa, 1<<62 - 1, 1 << 62,
	most - 1, most, least, least + 1, least + 63, least + 1<<31, all - 1<<32, all - 1<<31, all - 1<<31 + 1, all - 64, all - 63, all - 1, all,
}

// counts: by how far shifts go, with and without bits that don't count.
var counts = []uint64{
	0, 1, 2, 15, 30, 31, 32, 33, 47, 62, 63, 64, 65, 95, 96, 127, 128, 1 << 31, 1 << 32, 1<<32 + 1, 1<<32 + 31, 1<<32 + 32,
	1<<63 + 63, all - 63, all - 32, all - 31, all - 1, all,
}

// strangers: numbers that are no operation's.
var strangers = []int{
	math.MinInt, math.MinInt + 1, -1 << 32, -1000, -api.Ops, -api.Add, -2, -1, 0,
	api.Ops, api.Ops + 1, 128 + api.Add, 256 + api.Add, 1000, 1<<32 + api.Add, 1<<32 + api.Beq, math.MaxInt - 1, math.MaxInt,
}

// others: every number of an operation that isn't asked for, and the strangers.
func others(asked func(op int) bool) []int {
	rest := append([]int{}, strangers...)
	for op := 1; op < api.Ops; op++ {
		if !asked(op) {
			rest = append(rest, op)
		}
	}
	return rest
}

func power(n int) *big.Int { return new(big.Int).Exp(big.NewInt(2), big.NewInt(int64(n)), nil) }

// plain: the lowest bits of v as a number without a sign.
func plain(v uint64, bits int) *big.Int {
	return new(big.Int).Mod(new(big.Int).SetUint64(v), power(bits))
}

// signed: the same bits with their sign.
func signed(v uint64, bits int) *big.Int { return fold(new(big.Int).SetUint64(v), bits) }

// fold: the number from -2^(bits-1) to 2^(bits-1)-1 that is x modulo 2^bits.
func fold(x *big.Int, bits int) *big.Int {
	y := new(big.Int).Mod(x, power(bits))
	if y.Cmp(power(bits-1)) >= 0 {
		y.Sub(y, power(bits))
	}
	return y
}

// wordOf: x modulo 2^64.
func wordOf(x *big.Int) uint64 { return new(big.Int).Mod(x, power(64)).Uint64() }

// floor: x by y, towards the lesser ones.
func floor(x, y *big.Int) *big.Int {
	return new(big.Int).Div(x, y) // Euclid's: the same, for y is above 0
}

// A model reckons with numbers of any length, by sums, products and quotients alone, unlike the program's words.
type model func(a, b uint64, bits int) *big.Int

func sum(a, b uint64, bits int) *big.Int { return new(big.Int).Add(plain(a, bits), plain(b, bits)) }

func difference(a, b uint64, bits int) *big.Int {
	return new(big.Int).Sub(plain(a, bits), plain(b, bits))
}

func ordered(a, b uint64, bits int) *big.Int {
	return oneIf(plain(a, bits).Cmp(plain(b, bits)) < 0)
}

func orderedSigned(a, b uint64, bits int) *big.Int {
	return oneIf(signed(a, bits).Cmp(signed(b, bits)) < 0)
}

func up(a, b uint64, bits int) *big.Int {
	return new(big.Int).Mul(plain(a, bits), power(int(b%uint64(bits))))
}

func down(a, b uint64, bits int) *big.Int { return floor(plain(a, bits), power(int(b%uint64(bits)))) }

func downSigned(a, b uint64, bits int) *big.Int {
	return floor(signed(a, bits), power(int(b%uint64(bits))))
}

func oneIf(so bool) *big.Int {
	if so {
		return big.NewInt(1)
	}
	return new(big.Int)
}

// bitwise: the number whose bit is 1 where as many of a and b have it as ones says.
func bitwise(ones ...uint64) model {
	return func(a, b uint64, bits int) *big.Int {
		x := new(big.Int)
		for i := bits - 1; i >= 0; i-- {
			x.Mul(x, big.NewInt(2))
			for _, n := range ones {
				if bit(a, i)+bit(b, i) == n {
					x.Add(x, big.NewInt(1))
				}
			}
		}
		return x
	}
}

func bit(v uint64, i int) uint64 {
	for range i {
		v /= 2
	}
	return v % 2
}

// does: each operation of class 5 and 6 by itself.
var does = []struct {
	op   int
	of   model
	bits int
}{
	{api.Addi, sum, 64}, {api.Slti, orderedSigned, 64}, {api.Sltiu, ordered, 64},
	{api.Xori, bitwise(1), 64}, {api.Ori, bitwise(1, 2), 64}, {api.Andi, bitwise(2), 64},
	{api.Slli, up, 64}, {api.Srli, down, 64}, {api.Srai, downSigned, 64},
	{api.Addiw, sum, 32}, {api.Slliw, up, 32}, {api.Srliw, down, 32}, {api.Sraiw, downSigned, 32},
	{api.Add, sum, 64}, {api.Sub, difference, 64}, {api.Sll, up, 64},
	{api.Slt, orderedSigned, 64}, {api.Sltu, ordered, 64},
	{api.Xor, bitwise(1), 64}, {api.Srl, down, 64}, {api.Sra, downSigned, 64}, {api.Or, bitwise(1, 2), 64}, {api.And, bitwise(2), 64},
	{api.Addw, sum, 32}, {api.Subw, difference, 32}, {api.Sllw, up, 32}, {api.Srlw, down, 32}, {api.Sraw, downSigned, 32},
}

func TestDoesAreAll(t *testing.T) {
	if len(does) != api.Sraw-api.Addi+1 {
		t.Fatalf("%d operations of class 5 and 6 in the test", len(does))
	}
	for k, d := range does {
		if d.op != api.Addi+k {
			t.Errorf("%d stands at %d", d.op, k)
		}
	}
}

func TestDoKnown(t *testing.T) {
	for _, c := range []struct {
		op         int
		a, b, want uint64
	}{
		{api.Add, 3, 4, 7}, {api.Addi, 3, all, 2}, {api.Add, all, 1, 0}, {api.Add, all, all, all - 1},
		{api.Add, most, 1, least}, {api.Addi, least, all, most}, {api.Add, least, least, 0}, {api.Add, 1<<32 - 1, 1, 1 << 32},
		{api.Sub, 7, 4, 3}, {api.Sub, 0, 1, all}, {api.Sub, least, 1, most}, {api.Sub, 0, least, least}, {api.Sub, 1 << 32, 1, 1<<32 - 1},
		{api.Addw, 0x7fffffff, 1, 0xffffffff80000000}, {api.Addw, 0xffffffff, 1, 0}, {api.Addw, all, 1, 0},
		{api.Addw, 1 << 32, 5, 5}, {api.Addw, 1<<32 - 1, 0, all}, {api.Addw, least, 7, 7}, {api.Addiw, 0x80000000, all, 0x7fffffff},
		{api.Subw, 0x80000000, 1, 0x7fffffff}, {api.Subw, 0, 1, all}, {api.Subw, 1 << 32, 1, all}, {api.Subw, 0, 0x80000000, 0xffffffff80000000},
		{api.Slt, least, most, 1}, {api.Slt, most, least, 0}, {api.Slti, all, 0, 1}, {api.Slti, 0, all, 0}, {api.Slt, 5, 5, 0},
		{api.Slt, least, least, 0}, {api.Slt, 1 << 31, 1<<31 - 1, 0}, {api.Slt, 0, 1 << 32, 1},
		{api.Sltu, least, most, 0}, {api.Sltu, most, least, 1}, {api.Sltiu, all, 0, 0}, {api.Sltiu, 0, all, 1}, {api.Sltu, 5, 5, 0},
		{api.Xor, 12, 10, 6}, {api.Xori, 5, all, all - 5}, {api.Or, 12, 10, 14}, {api.Ori, least, 1, least + 1},
		{api.And, 12, 10, 8}, {api.Andi, all, least, least},
		{api.Sll, 1, 0, 1}, {api.Sll, 1, 1, 2}, {api.Sll, 1, 31, 1 << 31}, {api.Slli, 1, 32, 1 << 32}, {api.Sll, 1, 63, least},
		{api.Sll, 1, 64, 1}, {api.Sll, 3, all, least}, {api.Slli, all, 63, least}, {api.Sll, 5, least, 5},
		{api.Srl, least, 0, least}, {api.Srl, least, 1, 1 << 62}, {api.Srl, least, 31, 1 << 32}, {api.Srli, least, 32, 1 << 31},
		{api.Srl, least, 63, 1}, {api.Srl, least, 64, least}, {api.Srli, all, 1, most}, {api.Srl, all, all, 1},
		{api.Sra, least, 0, least}, {api.Sra, least, 1, 3 << 62}, {api.Srai, least, 31, all - 1<<32 + 1}, {api.Sra, least, 32, all - 1<<31 + 1},
		{api.Sra, least, 63, all}, {api.Sra, least, 64, least}, {api.Srai, most, 62, 1}, {api.Srai, most, 63, 0}, {api.Sra, all, all, all},
		{api.Sllw, 1, 0, 1}, {api.Sllw, 1, 31, 0xffffffff80000000}, {api.Sllw, 1, 32, 1}, {api.Slliw, 1, 63, 0xffffffff80000000},
		{api.Sllw, 1<<32 + 1, 1, 2}, {api.Sllw, 3 << 30, 1, 0xffffffff80000000}, {api.Sllw, 2, 31, 0},
		{api.Srlw, 0x80000000, 0, 0xffffffff80000000}, {api.Srlw, 0x80000000, 1, 1 << 30}, {api.Srlw, all, 31, 1}, {api.Srlw, all, 32, all},
		{api.Srliw, 1 << 32, 1, 0}, {api.Srliw, 1<<32 + 2, 1, 1}, {api.Srlw, least, 31, 0},
		{api.Sraw, 0x80000000, 0, 0xffffffff80000000}, {api.Sraw, 0x80000000, 1, 0xffffffffc0000000}, {api.Sraw, 0x80000000, 31, all},
		{api.Sraw, 0x80000000, 32, 0xffffffff80000000}, {api.Sraw, 0x7fffffff, 30, 1}, {api.Sraiw, 0x7fffffff, 31, 0},
		{api.Sraiw, 0xffffffff7fffffff, 31, 0}, {api.Sraiw, 1 << 40, 4, 0}, {api.Sraw, least, 31, 0},
	} {
		if got := alu.Do(c.op, c.a, c.b); got != c.want {
			t.Errorf("P5.1: Do(%d, %#x, %#x) = %#x, want %#x", c.op, c.a, c.b, got, c.want)
		}
	}
}

func checkDo(t *testing.T, a, b uint64) {
	for _, d := range does {
		x := d.of(a, b, d.bits)
		want := wordOf(fold(x, d.bits))
		if got := alu.Do(d.op, a, b); got != want {
			t.Errorf("P5.1, P5.2: Do(%d, %#x, %#x) = %#x, want %#x", d.op, a, b, got, want)
		}
	}
}

func TestDoEdges(t *testing.T) {
	for _, a := range values {
		for _, b := range values {
			checkDo(t, a, b)
		}
		for _, b := range counts {
			checkDo(t, a, b)
		}
	}
}

func TestDoMany(t *testing.T) {
	r := rand.New(rand.NewSource(51))
	for range 500 {
		a, b := r.Uint64()>>r.Intn(64), r.Uint64()>>r.Intn(64)
		checkDo(t, a, b)
		checkDo(t, ^a, b)
		checkDo(t, a, a)
	}
}

func TestShiftsByEachNumber(t *testing.T) {
	for _, a := range []uint64{1, all, least, most, 1 << 31, 1<<31 - 1, 1<<32 - 1, 0xfedcba9876543210, 0x0123456789abcdef} {
		for b := range uint64(130) {
			checkDo(t, a, b)
			checkDo(t, a, all-b)
		}
	}
}

func TestDoOfOthers(t *testing.T) {
	for _, op := range others(func(op int) bool { return api.Addi <= op && op <= api.Sraw }) {
		for _, a := range values {
			for _, b := range []uint64{0, 1, a, ^a, all} {
				if got := alu.Do(op, a, b); got != 0 {
					t.Fatalf("P5.1: Do(%d, %#x, %#x) = %#x, want 0", op, a, b, got)
				}
			}
		}
	}
}

func TestTakenKnown(t *testing.T) {
	// For each pair what the six of class 2 answer, in their order.
	for _, c := range []struct {
		a, b uint64
		want [6]bool
	}{
		{5, 5, [6]bool{true, false, false, true, false, true}},
		{0, 0, [6]bool{true, false, false, true, false, true}},
		{least, least, [6]bool{true, false, false, true, false, true}},
		{all, all, [6]bool{true, false, false, true, false, true}},
		{4, 5, [6]bool{false, true, true, false, true, false}},
		{5, 4, [6]bool{false, true, false, true, false, true}},
		{least, all, [6]bool{false, true, true, false, true, false}},
		{all, least, [6]bool{false, true, false, true, false, true}},
		{0, all, [6]bool{false, true, false, true, true, false}},
		{all, 0, [6]bool{false, true, true, false, false, true}},
		{most, least, [6]bool{false, true, false, true, true, false}},
		{least, most, [6]bool{false, true, true, false, false, true}},
		{1<<31 - 1, 1 << 31, [6]bool{false, true, true, false, true, false}},
		{1 << 32, 1, [6]bool{false, true, false, true, false, true}},
		{1 << 32, 0, [6]bool{false, true, false, true, false, true}},
	} {
		for k, want := range c.want {
			if got := alu.Taken(api.Beq+k, c.a, c.b); got != want {
				t.Errorf("P5.1: Taken(%d, %#x, %#x) = %t", api.Beq+k, c.a, c.b, got)
			}
		}
	}
}

func TestTakenEdges(t *testing.T) {
	for _, a := range values {
		for _, b := range values {
			order, orderSigned := plain(a, 64).Cmp(plain(b, 64)), signed(a, 64).Cmp(signed(b, 64))
			for _, c := range []struct {
				op   int
				want bool
			}{
				{api.Beq, order == 0}, {api.Bne, order != 0}, {api.Blt, orderSigned < 0}, {api.Bge, orderSigned >= 0},
				{api.Bltu, order < 0}, {api.Bgeu, order >= 0},
			} {
				if got := alu.Taken(c.op, a, b); got != c.want {
					t.Errorf("P5.1: Taken(%d, %#x, %#x) = %t", c.op, a, b, got)
				}
			}
		}
	}
}

func TestTakenOfOthers(t *testing.T) {
	for _, op := range others(func(op int) bool { return api.Beq <= op && op <= api.Bgeu }) {
		for _, a := range values {
			for _, b := range []uint64{0, 1, a, ^a, all} {
				if alu.Taken(op, a, b) {
					t.Fatalf("P5.1: Taken(%d, %#x, %#x)", op, a, b)
				}
			}
		}
	}
}

func TestCsrKnown(t *testing.T) {
	// 12 and 10: a bit that both have, one that the one has, one that the other has, and none.
	for _, c := range []struct {
		op           int
		old, v, want uint64
	}{
		{api.Csrrw, 12, 10, 10}, {api.Csrrwi, 12, 10, 10}, {api.Csrrw, all, 0, 0}, {api.Csrrwi, 0, all, all}, {api.Csrrw, 0, least, least},
		{api.Csrrs, 12, 10, 14}, {api.Csrrsi, 12, 10, 14}, {api.Csrrs, 0, all, all}, {api.Csrrsi, least, 0, least}, {api.Csrrs, least, 1, least + 1},
		{api.Csrrc, 12, 10, 4}, {api.Csrrci, 12, 10, 4}, {api.Csrrc, all, all, 0}, {api.Csrrci, all, 0, all}, {api.Csrrc, 0, all, 0}, {api.Csrrc, all, least, most},
	} {
		if got := alu.Csr(c.op, c.old, c.v); got != c.want {
			t.Errorf("P5.1: Csr(%d, %#x, %#x) = %#x, want %#x", c.op, c.old, c.v, got, c.want)
		}
	}
}

func TestCsrEdges(t *testing.T) {
	for _, old := range values {
		for _, v := range values {
			added := wordOf(bitwise(1, 2)(old, v, 64))
			without := wordOf(new(big.Int).Sub(plain(old, 64), bitwise(2)(old, v, 64)))
			for _, c := range []struct {
				op   int
				want uint64
			}{
				{api.Csrrw, v}, {api.Csrrwi, v}, {api.Csrrs, added}, {api.Csrrsi, added}, {api.Csrrc, without}, {api.Csrrci, without},
			} {
				if got := alu.Csr(c.op, old, v); got != c.want {
					t.Errorf("P5.1: Csr(%d, %#x, %#x) = %#x, want %#x", c.op, old, v, got, c.want)
				}
			}
		}
	}
}

func TestCsrOfOthers(t *testing.T) {
	for _, op := range others(func(op int) bool { return api.Csrrw <= op && op <= api.Csrrci }) {
		for _, old := range values {
			for _, v := range []uint64{0, 1, old, ^old, all} {
				if got := alu.Csr(op, old, v); got != old {
					t.Fatalf("P5.1: Csr(%d, %#x, %#x) = %#x, want %#x", op, old, v, got, old)
				}
			}
		}
	}
}

func TestExtendKnown(t *testing.T) {
	for _, c := range []struct {
		op      int
		v, want uint64
	}{
		{api.Lb, 0x7f, 0x7f}, {api.Lb, 0x80, 0xffffffffffffff80}, {api.Lb, 0xff, all}, {api.Lb, 0x100, 0}, {api.Lb, 0xffffffffffffff7f, 0x7f},
		{api.Lbu, 0x7f, 0x7f}, {api.Lbu, 0x80, 0x80}, {api.Lbu, 0x100, 0}, {api.Lbu, all, 0xff},
		{api.Lh, 0x7fff, 0x7fff}, {api.Lh, 0x8000, 0xffffffffffff8000}, {api.Lh, 0x10080, 0x80}, {api.Lh, 0xffffffffffff7fff, 0x7fff},
		{api.Lhu, 0x7fff, 0x7fff}, {api.Lhu, 0x8000, 0x8000}, {api.Lhu, 0x10000, 0}, {api.Lhu, all, 0xffff},
		{api.Lw, 0x7fffffff, 0x7fffffff}, {api.Lw, 0x80000000, 0xffffffff80000000}, {api.Lw, 0x100008000, 0x8000}, {api.Lw, 0xffffffff7fffffff, 0x7fffffff},
		{api.Lwu, 0x7fffffff, 0x7fffffff}, {api.Lwu, 0x80000000, 0x80000000}, {api.Lwu, 1 << 32, 0}, {api.Lwu, all, 0xffffffff},
		{api.Ld, most, most}, {api.Ld, least, least}, {api.Ld, all, all}, {api.Ld, 0x80000000, 0x80000000},
		{api.HlvW, 0x7fffffff, 0x7fffffff}, {api.HlvW, 0x80000000, 0xffffffff80000000}, {api.HlvW, 1 << 32, 0}, {api.HlvW, 0xffffffff7fffffff, 0x7fffffff},
		{api.HlvxWu, 0x7fffffff, 0x7fffffff}, {api.HlvxWu, 0x80000000, 0x80000000}, {api.HlvxWu, 1 << 32, 0}, {api.HlvxWu, all, 0xffffffff},
		{api.HlvD, most, most}, {api.HlvD, least, least}, {api.HlvD, all, all}, {api.HlvD, 0x80000000, 0x80000000},
	} {
		if got := alu.Extend(c.op, c.v); got != c.want {
			t.Errorf("P5.1: Extend(%d, %#x) = %#x, want %#x", c.op, c.v, got, c.want)
		}
	}
}

func extends(op int) bool {
	return api.Lb <= op && op <= api.Lwu || op == api.HlvW || op == api.HlvD || op == api.HlvxWu
}

func TestExtendEdges(t *testing.T) {
	for _, v := range values {
		for _, c := range []struct {
			op   int
			want *big.Int
		}{
			{api.Lb, signed(v, 8)}, {api.Lh, signed(v, 16)}, {api.Lw, signed(v, 32)}, {api.Ld, signed(v, 64)},
			{api.Lbu, plain(v, 8)}, {api.Lhu, plain(v, 16)}, {api.Lwu, plain(v, 32)},
			{api.HlvW, signed(v, 32)}, {api.HlvD, signed(v, 64)}, {api.HlvxWu, plain(v, 32)},
		} {
			if got := alu.Extend(c.op, v); got != wordOf(c.want) {
				t.Errorf("P5.1: Extend(%d, %#x) = %#x, want %#x", c.op, v, got, wordOf(c.want))
			}
		}
	}
}

func TestExtendOfOthers(t *testing.T) {
	for _, op := range others(extends) {
		for _, v := range values {
			if got := alu.Extend(op, v); got != 0 {
				t.Fatalf("P5.1: Extend(%d, %#x) = %#x, want 0", op, v, got)
			}
		}
	}
}

// What goes beyond 2^64 on either side is what is left of it: taken back again, nothing is lost, and it is the same
// whichever of the numbers that are alike modulo 2^64 are taken.
func TestModulo(t *testing.T) {
	for _, a := range values {
		for _, b := range values {
			added, taken := alu.Do(api.Add, a, b), alu.Do(api.Sub, a, b)
			if wordOf(new(big.Int).Add(plain(a, 64), plain(b, 64))) != added || wordOf(new(big.Int).Add(signed(a, 64), signed(b, 64))) != added {
				t.Errorf("P5.2: Add of %#x, %#x = %#x", a, b, added)
			}
			if wordOf(new(big.Int).Sub(plain(a, 64), plain(b, 64))) != taken || wordOf(new(big.Int).Sub(signed(a, 64), signed(b, 64))) != taken {
				t.Errorf("P5.2: Sub of %#x, %#x = %#x", a, b, taken)
			}
			if back := alu.Do(api.Sub, added, b); back != a {
				t.Errorf("P5.2: %#x and %#x added, then taken away: %#x", a, b, back)
			}
			if alu.Do(api.Addi, a, b) != added || alu.Do(api.Add, b, a) != added || alu.Do(api.Add, taken, b) != a {
				t.Errorf("P5.2: sums of %#x and %#x aren't alike", a, b)
			}
		}
	}
}
