package decode_test

import (
	"math"
	"math/rand"
	"strings"
	"sync"
	"testing"

	"sallyport/api"
	"sallyport/decode"
	"sallyport/insn"
)

// line: one operation by itself, as the chapter's table tells it. The word is written from bit 31 down: noughts and ones
// tell the operation; d, a, b, c are bits of Rd, Rs1, Rs2, CSR; n are bits of the number, whose worth is its kind's.
type line struct {
	op     int
	word   string
	format byte
	kind   string
}

var lines = []line{
	{api.Lui, "nnnnnnnnnnnnnnnnnnnn ddddd 0110111", 'U', "U"},
	{api.Auipc, "nnnnnnnnnnnnnnnnnnnn ddddd 0010111", 'U', "U"},
	{api.Jal, "nnnnnnnnnnnnnnnnnnnn ddddd 1101111", 'J', "J"},
	{api.Jalr, "nnnnnnnnnnnn aaaaa 000 ddddd 1100111", 'I', "I"},
	{api.Beq, "nnnnnnn bbbbb aaaaa 000 nnnnn 1100011", 'B', "B"},
	{api.Bne, "nnnnnnn bbbbb aaaaa 001 nnnnn 1100011", 'B', "B"},
	{api.Blt, "nnnnnnn bbbbb aaaaa 100 nnnnn 1100011", 'B', "B"},
	{api.Bge, "nnnnnnn bbbbb aaaaa 101 nnnnn 1100011", 'B', "B"},
	{api.Bltu, "nnnnnnn bbbbb aaaaa 110 nnnnn 1100011", 'B', "B"},
	{api.Bgeu, "nnnnnnn bbbbb aaaaa 111 nnnnn 1100011", 'B', "B"},
	{api.Lb, "nnnnnnnnnnnn aaaaa 000 ddddd 0000011", 'I', "I"},
	{api.Lh, "nnnnnnnnnnnn aaaaa 001 ddddd 0000011", 'I', "I"},
	{api.Lw, "nnnnnnnnnnnn aaaaa 010 ddddd 0000011", 'I', "I"},
	{api.Ld, "nnnnnnnnnnnn aaaaa 011 ddddd 0000011", 'I', "I"},
	{api.Lbu, "nnnnnnnnnnnn aaaaa 100 ddddd 0000011", 'I', "I"},
	{api.Lhu, "nnnnnnnnnnnn aaaaa 101 ddddd 0000011", 'I', "I"},
	{api.Lwu, "nnnnnnnnnnnn aaaaa 110 ddddd 0000011", 'I', "I"},
	{api.Sb, "nnnnnnn bbbbb aaaaa 000 nnnnn 0100011", 'S', "S"},
	{api.Sh, "nnnnnnn bbbbb aaaaa 001 nnnnn 0100011", 'S', "S"},
	{api.Sw, "nnnnnnn bbbbb aaaaa 010 nnnnn 0100011", 'S', "S"},
	{api.Sd, "nnnnnnn bbbbb aaaaa 011 nnnnn 0100011", 'S', "S"},
	{api.Addi, "nnnnnnnnnnnn aaaaa 000 ddddd 0010011", 'I', "I"},
	{api.Slti, "nnnnnnnnnnnn aaaaa 010 ddddd 0010011", 'I', "I"},
	{api.Sltiu, "nnnnnnnnnnnn aaaaa 011 ddddd 0010011", 'I', "I"},
	{api.Xori, "nnnnnnnnnnnn aaaaa 100 ddddd 0010011", 'I', "I"},
	{api.Ori, "nnnnnnnnnnnn aaaaa 110 ddddd 0010011", 'I', "I"},
	{api.Andi, "nnnnnnnnnnnn aaaaa 111 ddddd 0010011", 'I', "I"},
	{api.Slli, "000000 nnnnnn aaaaa 001 ddddd 0010011", 'I', "shift"},
	{api.Srli, "000000 nnnnnn aaaaa 101 ddddd 0010011", 'I', "shift"},
	{api.Srai, "010000 nnnnnn aaaaa 101 ddddd 0010011", 'I', "shift"},
	{api.Addiw, "nnnnnnnnnnnn aaaaa 000 ddddd 0011011", 'I', "I"},
	{api.Slliw, "0000000 nnnnn aaaaa 001 ddddd 0011011", 'I', "shift"},
	{api.Srliw, "0000000 nnnnn aaaaa 101 ddddd 0011011", 'I', "shift"},
	{api.Sraiw, "0100000 nnnnn aaaaa 101 ddddd 0011011", 'I', "shift"},
	{api.Add, "0000000 bbbbb aaaaa 000 ddddd 0110011", 'R', ""},
	{api.Sub, "0100000 bbbbb aaaaa 000 ddddd 0110011", 'R', ""},
	{api.Sll, "0000000 bbbbb aaaaa 001 ddddd 0110011", 'R', ""},
	{api.Slt, "0000000 bbbbb aaaaa 010 ddddd 0110011", 'R', ""},
	{api.Sltu, "0000000 bbbbb aaaaa 011 ddddd 0110011", 'R', ""},
	{api.Xor, "0000000 bbbbb aaaaa 100 ddddd 0110011", 'R', ""},
	{api.Srl, "0000000 bbbbb aaaaa 101 ddddd 0110011", 'R', ""},
	{api.Sra, "0100000 bbbbb aaaaa 101 ddddd 0110011", 'R', ""},
	{api.Or, "0000000 bbbbb aaaaa 110 ddddd 0110011", 'R', ""},
	{api.And, "0000000 bbbbb aaaaa 111 ddddd 0110011", 'R', ""},
	{api.Addw, "0000000 bbbbb aaaaa 000 ddddd 0111011", 'R', ""},
	{api.Subw, "0100000 bbbbb aaaaa 000 ddddd 0111011", 'R', ""},
	{api.Sllw, "0000000 bbbbb aaaaa 001 ddddd 0111011", 'R', ""},
	{api.Srlw, "0000000 bbbbb aaaaa 101 ddddd 0111011", 'R', ""},
	{api.Sraw, "0100000 bbbbb aaaaa 101 ddddd 0111011", 'R', ""},
	{api.Fence, "0000 1111 1111 0000 0000 0000 0000 1111", 'I', ""},
	{api.FenceI, "0000 0000 0000 0000 0001 0000 0000 1111", 'I', ""},
	{api.Ecall, "0000 0000 0000 0000 0000 0000 0111 0011", 'I', ""},
	{api.Ebreak, "0000 0000 0001 0000 0000 0000 0111 0011", 'I', ""},
	{api.Csrrw, "cccccccccccc aaaaa 001 ddddd 1110011", 'I', ""},
	{api.Csrrs, "cccccccccccc aaaaa 010 ddddd 1110011", 'I', ""},
	{api.Csrrc, "cccccccccccc aaaaa 011 ddddd 1110011", 'I', ""},
	{api.Csrrwi, "cccccccccccc nnnnn 101 ddddd 1110011", 'I', "rs1"},
	{api.Csrrsi, "cccccccccccc nnnnn 110 ddddd 1110011", 'I', "rs1"},
	{api.Csrrci, "cccccccccccc nnnnn 111 ddddd 1110011", 'I', "rs1"},
	{api.Mret, "0011 0000 0010 0000 0000 0000 0111 0011", 'I', ""},
	{api.Sret, "0001 0000 0010 0000 0000 0000 0111 0011", 'I', ""},
	{api.Wfi, "0001 0000 0101 0000 0000 0000 0111 0011", 'I', ""},
	{api.SfenceVma, "0001001 bbbbb aaaaa 000 00000 1110011", 'R', ""},
	{api.HfenceVvma, "0010001 bbbbb aaaaa 000 00000 1110011", 'R', ""},
	{api.HfenceGvma, "0110001 bbbbb aaaaa 000 00000 1110011", 'R', ""},
	{api.HlvW, "0110100 00000 aaaaa 100 ddddd 1110011", 'R', ""},
	{api.HlvD, "0110110 00000 aaaaa 100 ddddd 1110011", 'R', ""},
	{api.HlvxWu, "0110100 00011 aaaaa 100 ddddd 1110011", 'R', ""},
	{api.HsvD, "0110111 bbbbb aaaaa 100 00000 1110011", 'R', ""},
}

// worths: what a one in a bit of the number is worth, from bit 31 down, and so with its sign; 0 where none of it stands.
var worths = map[string][32]int64{
	"I":     {-2048, 1024, 512, 256, 128, 64, 32, 16, 8, 4, 2, 1},
	"shift": {6: 32, 7: 16, 8: 8, 9: 4, 10: 2, 11: 1},
	"S":     {-2048, 1024, 512, 256, 128, 64, 32, 20: 16, 21: 8, 22: 4, 23: 2, 24: 1},
	"B":     {-4096, 1024, 512, 256, 128, 64, 32, 20: 16, 21: 8, 22: 4, 23: 2, 24: 2048},
	"U": {-2147483648, 1073741824, 536870912, 268435456, 134217728, 67108864, 33554432, 16777216, 8388608, 4194304,
		2097152, 1048576, 524288, 262144, 131072, 65536, 32768, 16384, 8192, 4096},
	"J": {-1048576, 1024, 512, 256, 128, 64, 32, 16, 8, 4, 2, 2048,
		524288, 262144, 131072, 65536, 32768, 16384, 8192, 4096},
	"rs1": {12: 16, 13: 8, 14: 4, 15: 2, 16: 1},
}

// numbers: of each kind the least one, the greatest one, and some between.
var numbers = map[string][]int64{
	"":    {0},
	"I":   {-2048, 2047, -2047, 2046, -1, 0, 1, 1024, -1025, 682},
	"S":   {-2048, 2047, -2047, 2046, -1, 0, 1, 32, 31, -33, 682},
	"B":   {-4096, 4094, -4094, 4092, -2, 0, 2, 2048, -2048, -2050, 30, 32, 1364},
	"U":   {-2147483648, 2147479552, -2147479552, -4096, 0, 4096, 305418240},
	"J":   {-1048576, 1048574, -1048574, -2, 0, 2, 2046, 2048, -2048, 4094, 4096, -4096, 699050},
	"rs1": {0, 31, 1, 16, 21},
}

// strangers: numbers that are no operation's.
var strangers = []int{math.MinInt, math.MinInt + 1, -1000, -api.Ops, -2, -1, 0, api.Ops, api.Ops + 1, 1000, 1<<32 + api.Lui, math.MaxInt - 1, math.MaxInt}

func (l line) bits() string { return strings.ReplaceAll(l.word, " ", "") }

// known: the bits that tell the operation, and what stands in them.
func (l line) known() (uint32, uint32) {
	var mask, held uint32
	for _, c := range l.bits() {
		mask, held = mask*2, held*2
		if c == '0' || c == '1' {
			mask++
		}
		if c == '1' {
			held++
		}
	}
	return mask, held
}

func (l line) numbers() []int64 {
	if l.kind == "shift" && strings.Contains(l.word, "nnnnnn") {
		return []int64{0, 63, 1, 31, 32, 62, 42}
	}
	if l.kind == "shift" {
		return []int64{0, 31, 1, 15, 16, 30, 21}
	}
	return numbers[l.kind]
}

// chosen: the bits of the number that make n.
func (l line) chosen(n int64) [32]bool {
	var on [32]bool
	worth := worths[l.kind]
	if n < 0 {
		on[0], n = true, n-worth[0]
	}
	for size := int64(1) << 40; size > 0; size /= 2 {
		for k, x := range worth {
			if x == size && n >= x && l.bits()[k] == 'n' {
				on[k], n = true, n-x
			}
		}
	}
	return on
}

// write: the word of i, put together letter by letter.
func (l line) write(i api.Insn) uint32 {
	on := l.chosen(i.Imm)
	field := map[rune]int{'d': i.Rd, 'a': i.Rs1, 'b': i.Rs2, 'c': i.CSR}
	left := map[rune]int{'d': 5, 'a': 5, 'b': 5, 'c': 12}
	var w uint32
	for k, c := range l.bits() {
		left[c]--
		w *= 2
		if c == '1' || c == 'n' && on[k] || left[c] >= 0 && field[c]>>left[c]%2 == 1 {
			w++
		}
	}
	return w
}

// filled: the instruction with reg in each register that the operation has, and with these in what else it has.
func (l line) filled(reg, csr int, imm int64) api.Insn {
	i := api.Insn{Op: l.op, Imm: imm}
	if strings.Contains(l.word, "d") {
		i.Rd = reg
	}
	if strings.Contains(l.word, "a") {
		i.Rs1 = 31 - reg
	}
	if strings.Contains(l.word, "b") {
		i.Rs2 = (reg + 7) % 32
	}
	if strings.Contains(l.word, "c") {
		i.CSR = csr
	}
	return i
}

// insns: the operation with each of its fields at its least, its greatest, and between.
func (l line) insns() []api.Insn {
	var all []api.Insn
	for _, imm := range l.numbers() {
		for _, reg := range []int{0, 1, 5, 10, 16, 24, 31} {
			for _, csr := range []int{0, 1, 0x300, 0x555, 0x800, 4095} {
				all = append(all, l.filled(reg, csr, imm))
			}
		}
	}
	return all
}

// model reads a word by the lines; it goes through all of them, to see that no two claim it.
func model(t *testing.T, w uint32) (api.Insn, bool) {
	t.Helper()
	found := -1
	for k := range lines {
		if w&masks[k] != helds[k] {
			continue
		}
		if found >= 0 {
			t.Fatalf("lines %d and %d both have %08x", found, k, w)
		}
		found = k
	}
	if found < 0 {
		return api.Insn{}, false
	}
	l := lines[found]
	i := api.Insn{Op: l.op}
	for k, c := range shapes[found] {
		bit := int(w >> (31 - k) % 2)
		switch c {
		case 'd':
			i.Rd = i.Rd*2 + bit
		case 'a':
			i.Rs1 = i.Rs1*2 + bit
		case 'b':
			i.Rs2 = i.Rs2*2 + bit
		case 'c':
			i.CSR = i.CSR*2 + bit
		case 'n':
			i.Imm += int64(bit) * worths[l.kind][k]
		}
	}
	return i, true
}

// What the model asks of each line, read out of its text once.
var (
	masks, helds []uint32
	shapes       []string
)

func init() {
	for _, l := range lines {
		mask, held := l.known()
		masks, helds, shapes = append(masks, mask), append(helds, held), append(shapes, l.bits())
	}
}

// check: what the chapter asks of w.
func check(t *testing.T, w uint32) (api.Insn, bool) {
	t.Helper()
	want, good := model(t, w)
	i, e := decode.Decode(w)
	switch {
	case good && (i != want || e != api.OK):
		t.Errorf("P3.1: Decode(%08x) = %+v, %v, want %+v", w, i, e, want)
	case !good && (i != api.Insn{} || e != api.ErrInsn):
		t.Errorf("P3.2: Decode(%08x) = %+v, %v, want ErrInsn", w, i, e)
	case good && !insn.Is(i):
		t.Errorf("P3.3: Decode(%08x) = %+v, which is no instruction", w, i)
	}
	if got := decode.Opcode(w); got != int(w%128) {
		t.Errorf("P3.1: Opcode(%08x) = %x", w, got)
	}
	if got := decode.Listed(w); got != i.Op {
		t.Errorf("P3.1: the table has operation %d for %08x, Decode has %d", got, w, i.Op)
	}
	return i, good
}

// The first test, so that the table is made while several ask.
func TestAskedAtOnce(t *testing.T) {
	var all sync.WaitGroup
	for range 8 {
		all.Go(func() {
			for k, l := range lines {
				if got := decode.Listed(helds[k]); got != l.op {
					t.Errorf("P3.1: %08x asked by several at once: %d, want %d", helds[k], got, l.op)
				}
			}
		})
	}
	all.Wait()
}

func TestLinesAreAll(t *testing.T) {
	if len(lines) != api.Ops-1 {
		t.Fatalf("%d lines for %d operations", len(lines), api.Ops-1)
	}
	for k, l := range lines {
		if l.op != k+1 || len(l.bits()) != 32 {
			t.Errorf("line %d is of operation %d and has %d bits", k, l.op, len(l.bits()))
		}
	}
}

// Words that stand in books, and both ends of each kind of number.
func TestKnown(t *testing.T) {
	for _, c := range []struct {
		w uint32
		i api.Insn
	}{
		{0x00a00093, api.Insn{Op: api.Addi, Rd: 1, Imm: 10}},
		{0x80000013, api.Insn{Op: api.Addi, Imm: -2048}},
		{0x7ff00013, api.Insn{Op: api.Addi, Imm: 2047}},
		{0xfff00013, api.Insn{Op: api.Addi, Imm: -1}},
		{0x80008067, api.Insn{Op: api.Jalr, Rs1: 1, Imm: -2048}},
		{0x7ff0b083, api.Insn{Op: api.Ld, Rd: 1, Rs1: 1, Imm: 2047}},
		{0x80000023, api.Insn{Op: api.Sb, Imm: -2048}},
		{0x7e000fa3, api.Insn{Op: api.Sb, Imm: 2047}},
		{0xfe000fa3, api.Insn{Op: api.Sb, Imm: -1}},
		{0x00112623, api.Insn{Op: api.Sw, Rs1: 2, Rs2: 1, Imm: 12}},
		{0x80000063, api.Insn{Op: api.Beq, Imm: -4096}},
		{0x7e000fe3, api.Insn{Op: api.Beq, Imm: 4094}},
		{0xfe000fe3, api.Insn{Op: api.Beq, Imm: -2}},
		{0x000000e3, api.Insn{Op: api.Beq, Imm: 2048}},
		{0x00208463, api.Insn{Op: api.Beq, Rs1: 1, Rs2: 2, Imm: 8}},
		{0x80000037, api.Insn{Op: api.Lui, Imm: -2147483648}},
		{0x7ffff037, api.Insn{Op: api.Lui, Imm: 2147479552}},
		{0xfffff017, api.Insn{Op: api.Auipc, Imm: -4096}},
		{0x00001fb7, api.Insn{Op: api.Lui, Rd: 31, Imm: 4096}},
		{0x8000006f, api.Insn{Op: api.Jal, Imm: -1048576}},
		{0x7ffff06f, api.Insn{Op: api.Jal, Imm: 1048574}},
		{0xfffff06f, api.Insn{Op: api.Jal, Imm: -2}},
		{0x0010006f, api.Insn{Op: api.Jal, Imm: 2048}},
		{0x0000106f, api.Insn{Op: api.Jal, Imm: 4096}},
		{0x008000ef, api.Insn{Op: api.Jal, Rd: 1, Imm: 8}},
		{0x03f09093, api.Insn{Op: api.Slli, Rd: 1, Rs1: 1, Imm: 63}},
		{0x43f0d093, api.Insn{Op: api.Srai, Rd: 1, Rs1: 1, Imm: 63}},
		{0x41f0d09b, api.Insn{Op: api.Sraiw, Rd: 1, Rs1: 1, Imm: 31}},
		{0x40b50533, api.Insn{Op: api.Sub, Rd: 10, Rs1: 10, Rs2: 11}},
		{0x0ff0000f, api.Insn{Op: api.Fence}},
		{0x0000100f, api.Insn{Op: api.FenceI}},
		{0x00000073, api.Insn{Op: api.Ecall}},
		{0x00100073, api.Insn{Op: api.Ebreak}},
		{0x30200073, api.Insn{Op: api.Mret}},
		{0x10200073, api.Insn{Op: api.Sret}},
		{0x10500073, api.Insn{Op: api.Wfi}},
		{0x30529073, api.Insn{Op: api.Csrrw, Rs1: 5, CSR: 0x305}},
		{0xfffffff3, api.Insn{Op: api.Csrrci, Rd: 31, Imm: 31, CSR: 4095}},
		{0x12000073, api.Insn{Op: api.SfenceVma}},
		{0x23ff8073, api.Insn{Op: api.HfenceVvma, Rs1: 31, Rs2: 31}},
		{0x62208073, api.Insn{Op: api.HfenceGvma, Rs1: 1, Rs2: 2}},
		{0x680140f3, api.Insn{Op: api.HlvW, Rd: 1, Rs1: 2}},
		{0x683140f3, api.Insn{Op: api.HlvxWu, Rd: 1, Rs1: 2}},
		{0x6c0140f3, api.Insn{Op: api.HlvD, Rd: 1, Rs1: 2}},
		{0x6e20c073, api.Insn{Op: api.HsvD, Rs1: 1, Rs2: 2}},
	} {
		if i, e := decode.Decode(c.w); i != c.i || e != api.OK {
			t.Errorf("P3.1: Decode(%08x) = %+v, %v, want %+v", c.w, i, e, c.i)
		}
		check(t, c.w)
	}
}

// Words that are no instruction's, told as numbers.
func TestKnownNone(t *testing.T) {
	for _, w := range []uint32{
		0x00000000, 0xffffffff, 0x00000001, 0x80000000, 0x00008068,
		0x00001067, 0x00007067, 0x00002063, 0x00003063, 0x00007003, 0x00004023, 0x00007023,
		0x04001013, 0x80001013, 0x40001013, 0x04005013, 0x44005013, 0x80005013, 0xc0005013, 0x20005013,
		0x0200101b, 0x4000101b, 0x0200501b, 0x4200501b, 0x6000501b, 0x0000201b, 0x0000301b, 0x0000401b, 0x0000601b, 0x0000701b,
		0x02000033, 0x80000033, 0x40001033, 0x40002033, 0x40003033, 0x40004033, 0x40006033, 0x40007033, 0x42000033, 0x42005033,
		0x0200003b, 0x0000203b, 0x0000303b, 0x0000403b, 0x0000603b, 0x0000703b, 0x4000103b, 0x4200003b,
		0x0000000f, 0x0ff0100f, 0x0fe0000f, 0x0ff0008f, 0x1ff0000f, 0x0000108f, 0x0000900f, 0x0010100f, 0x0000200f,
		0x000000f3, 0x00008073, 0x00200073, 0x001000f3, 0x00108073, 0x302000f3, 0x30208073, 0x30300073, 0x102000f3, 0x10208073,
		0x10300073, 0x105000f3, 0x10508073, 0x10400073, 0x120000f3, 0x220000f3, 0x620000f3, 0x32000073, 0x02000073,
		0x00004073, 0x68104073, 0x68204073, 0x68404073, 0x6c104073, 0x6c304073, 0x6a004073, 0x6a304073, 0x6e0040f3, 0x6f0040f3,
	} {
		if i, e := decode.Decode(w); i != (api.Insn{}) || e != api.ErrInsn {
			t.Errorf("P3.2: Decode(%08x) = %+v, %v, want ErrInsn", w, i, e)
		}
		check(t, w)
	}
}

func TestFields(t *testing.T) {
	for _, l := range lines {
		for _, want := range l.insns() {
			w := l.write(want)
			if i, e := decode.Decode(w); i != want || e != api.OK {
				t.Errorf("P3.1: Decode(%08x) = %+v, %v, want %+v", w, i, e, want)
			}
			check(t, w)
		}
	}
}

// Each opcode with each f3 and each f7: those of the table, and all beside them.
func TestEachHead(t *testing.T) {
	parts := []struct{ rd, rs1, rs2 uint32 }{{0, 0, 0}, {31, 31, 31}, {1, 2, 3}, {0, 10, 3}, {21, 9, 0}, {0, 17, 2}}
	for op := range uint32(128) {
		for f3 := range uint32(8) {
			for f7 := range uint32(128) {
				for _, p := range parts {
					check(t, op|p.rd<<7|f3<<12|p.rs1<<15|p.rs2<<20|f7<<25)
				}
			}
		}
	}
}

func TestNoOpcode(t *testing.T) {
	had := map[int]bool{0x37: true, 0x17: true, 0x6f: true, 0x67: true, 0x63: true, 0x03: true, 0x23: true, 0x13: true, 0x1b: true, 0x33: true, 0x3b: true, 0x0f: true, 0x73: true}
	for w := range uint32(1 << 7) {
		for above := range uint32(1 << 11) {
			word := w | above*0x155557<<7
			if _, good := check(t, word); good && !had[int(w)] {
				t.Errorf("P3.2: Decode(%08x) takes opcode %x", word, w)
			}
		}
	}
}

// One bit beside a word stands another instruction, or none: no bit of a word is passed over.
func TestBeside(t *testing.T) {
	for _, l := range lines {
		for _, i := range l.insns() {
			w := l.write(i)
			for bit := range 32 {
				if j, good := check(t, w^1<<bit); good && j == i {
					t.Errorf("P3.3: %08x and %08x: both %+v", w, w^1<<bit, i)
				}
			}
		}
	}
}

// The instructions that are a single word, with one bit and two bits beside it.
func TestWhole(t *testing.T) {
	for k, l := range lines {
		if masks[k] != math.MaxUint32 {
			continue
		}
		for a := range 32 {
			for b := range 32 {
				if w := helds[k] ^ 1<<a ^ 1<<b; w != helds[k] {
					if i, _ := check(t, w); i.Op == l.op {
						t.Errorf("P3.2: Decode(%08x) is that of %08x", w, helds[k])
					}
				}
			}
		}
	}
}

// No two words are one instruction; what a word is stays so, whenever it is asked.
func TestOneOrNone(t *testing.T) {
	r := rand.New(rand.NewSource(303))
	seen := map[api.Insn]uint32{}
	for range 300000 {
		w := r.Uint32()
		if k := r.Intn(2 * len(lines)); k < len(lines) {
			w = w&^masks[k] | helds[k]
		}
		i, good := check(t, w)
		if again, e := decode.Decode(w); again != i || (e == api.OK) != good {
			t.Fatalf("P3.3: %08x: %+v, then %+v", w, i, again)
		}
		if !good {
			continue
		}
		if x, ok := seen[i]; ok && x != w {
			t.Fatalf("P3.3: %08x and %08x: both %+v", w, x, i)
		}
		seen[i] = w
	}
}

func TestOpcode(t *testing.T) {
	for _, c := range []struct {
		w    uint32
		want int
	}{{0, 0}, {1, 1}, {0x7f, 0x7f}, {0x80, 0}, {0xffffff80, 0}, {0xffffffff, 0x7f}, {0x00a00093, 0x13}, {0x80000040, 0x40}} {
		if got := decode.Opcode(c.w); got != c.want {
			t.Errorf("P3.1: Opcode(%08x) = %x, want %x", c.w, got, c.want)
		}
	}
}

func TestFormat(t *testing.T) {
	for _, l := range lines {
		if got := decode.Format(l.op); got != l.format {
			t.Errorf("P3.1: Format(%d) = %c, want %c", l.op, got, l.format)
		}
	}
	for _, op := range strangers {
		if got := decode.Format(op); got != '-' {
			t.Errorf("P3.1: Format(%d) = %c, want -", op, got)
		}
	}
}
