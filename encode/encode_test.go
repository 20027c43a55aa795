package encode_test

import (
	"math"
	"math/rand"
	"slices"
	"strconv"
	"strings"
	"testing"

	"sallyport/api"
	"sallyport/decode"
	"sallyport/encode"
	"sallyport/insn"
	"sallyport/word"
)

// line: one operation by itself: its word with each part at 0, its text with a letter for each part (d, c, a, b, n: Rd,
// CSR, Rs1, Rs2, the number), and which of the kinds of numbers below it has.
type line struct {
	op     int
	word   uint32
	text   string
	number string
}

var lines = []line{
	{api.Lui, 0x00000037, "lui d,n", "U"},
	{api.Auipc, 0x00000017, "auipc d,n", "U"},
	{api.Jal, 0x0000006f, "jal d,n", "J"},
	{api.Jalr, 0x00000067, "jalr d,a,n", "I"},
	{api.Beq, 0x00000063, "beq a,b,n", "B"},
	{api.Bne, 0x00001063, "bne a,b,n", "B"},
	{api.Blt, 0x00004063, "blt a,b,n", "B"},
	{api.Bge, 0x00005063, "bge a,b,n", "B"},
	{api.Bltu, 0x00006063, "bltu a,b,n", "B"},
	{api.Bgeu, 0x00007063, "bgeu a,b,n", "B"},
	{api.Lb, 0x00000003, "lb d,a,n", "I"},
	{api.Lh, 0x00001003, "lh d,a,n", "I"},
	{api.Lw, 0x00002003, "lw d,a,n", "I"},
	{api.Ld, 0x00003003, "ld d,a,n", "I"},
	{api.Lbu, 0x00004003, "lbu d,a,n", "I"},
	{api.Lhu, 0x00005003, "lhu d,a,n", "I"},
	{api.Lwu, 0x00006003, "lwu d,a,n", "I"},
	{api.Sb, 0x00000023, "sb a,b,n", "S"},
	{api.Sh, 0x00001023, "sh a,b,n", "S"},
	{api.Sw, 0x00002023, "sw a,b,n", "S"},
	{api.Sd, 0x00003023, "sd a,b,n", "S"},
	{api.Addi, 0x00000013, "addi d,a,n", "I"},
	{api.Slti, 0x00002013, "slti d,a,n", "I"},
	{api.Sltiu, 0x00003013, "sltiu d,a,n", "I"},
	{api.Xori, 0x00004013, "xori d,a,n", "I"},
	{api.Ori, 0x00006013, "ori d,a,n", "I"},
	{api.Andi, 0x00007013, "andi d,a,n", "I"},
	{api.Slli, 0x00001013, "slli d,a,n", "six"},
	{api.Srli, 0x00005013, "srli d,a,n", "six"},
	{api.Srai, 0x40005013, "srai d,a,n", "six"},
	{api.Addiw, 0x0000001b, "addiw d,a,n", "I"},
	{api.Slliw, 0x0000101b, "slliw d,a,n", "five"},
	{api.Srliw, 0x0000501b, "srliw d,a,n", "five"},
	{api.Sraiw, 0x4000501b, "sraiw d,a,n", "five"},
	{api.Add, 0x00000033, "add d,a,b", ""},
	{api.Sub, 0x40000033, "sub d,a,b", ""},
	{api.Sll, 0x00001033, "sll d,a,b", ""},
	{api.Slt, 0x00002033, "slt d,a,b", ""},
	{api.Sltu, 0x00003033, "sltu d,a,b", ""},
	{api.Xor, 0x00004033, "xor d,a,b", ""},
	{api.Srl, 0x00005033, "srl d,a,b", ""},
	{api.Sra, 0x40005033, "sra d,a,b", ""},
	{api.Or, 0x00006033, "or d,a,b", ""},
	{api.And, 0x00007033, "and d,a,b", ""},
	{api.Addw, 0x0000003b, "addw d,a,b", ""},
	{api.Subw, 0x4000003b, "subw d,a,b", ""},
	{api.Sllw, 0x0000103b, "sllw d,a,b", ""},
	{api.Srlw, 0x0000503b, "srlw d,a,b", ""},
	{api.Sraw, 0x4000503b, "sraw d,a,b", ""},
	{api.Fence, 0x0ff0000f, "fence", ""},
	{api.FenceI, 0x0000100f, "fence.i", ""},
	{api.Ecall, 0x00000073, "ecall", ""},
	{api.Ebreak, 0x00100073, "ebreak", ""},
	{api.Csrrw, 0x00001073, "csrrw d,c,a", ""},
	{api.Csrrs, 0x00002073, "csrrs d,c,a", ""},
	{api.Csrrc, 0x00003073, "csrrc d,c,a", ""},
	{api.Csrrwi, 0x00005073, "csrrwi d,c,n", "rs1"},
	{api.Csrrsi, 0x00006073, "csrrsi d,c,n", "rs1"},
	{api.Csrrci, 0x00007073, "csrrci d,c,n", "rs1"},
	{api.Mret, 0x30200073, "mret", ""},
	{api.Sret, 0x10200073, "sret", ""},
	{api.Wfi, 0x10500073, "wfi", ""},
	{api.SfenceVma, 0x12000073, "sfence.vma a,b", ""},
	{api.HfenceVvma, 0x22000073, "hfence.vvma a,b", ""},
	{api.HfenceGvma, 0x62000073, "hfence.gvma a,b", ""},
	{api.HlvW, 0x68004073, "hlv.w d,a", ""},
	{api.HlvD, 0x6c004073, "hlv.d d,a", ""},
	{api.HlvxWu, 0x68304073, "hlvx.wu d,a", ""},
	{api.HsvD, 0x6e004073, "hsv.d a,b", ""},
}

// numbers: of each kind the least one, the greatest one, the step between; and for each bit of it which bit of the word
// it is, from its lowest one on that isn't always 0. That of the highest has the sign, where there are numbers below 0.
var numbers = map[string]struct {
	least, most, step int64
	bits              []int
}{
	"":     {0, 0, 1, nil},
	"I":    {-2048, 2047, 1, []int{20, 21, 22, 23, 24, 25, 26, 27, 28, 29, 30, 31}},
	"six":  {0, 63, 1, []int{20, 21, 22, 23, 24, 25}},
	"five": {0, 31, 1, []int{20, 21, 22, 23, 24}},
	"S":    {-2048, 2047, 1, []int{7, 8, 9, 10, 11, 25, 26, 27, 28, 29, 30, 31}},
	"B":    {-4096, 4094, 2, []int{8, 9, 10, 11, 25, 26, 27, 28, 29, 30, 7, 31}},
	"U":    {-2147483648, 2147479552, 4096, []int{12, 13, 14, 15, 16, 17, 18, 19, 20, 21, 22, 23, 24, 25, 26, 27, 28, 29, 30, 31}},
	"J":    {-1048576, 1048574, 2, []int{21, 22, 23, 24, 25, 26, 27, 28, 29, 30, 20, 12, 13, 14, 15, 16, 17, 18, 19, 31}},
	"rs1":  {0, 31, 1, []int{15, 16, 17, 18, 19}},
}

// strangers: numbers that are no operation's.
var strangers = []int{math.MinInt, math.MinInt + 1, -1000, -api.Ops, -2, -1, 0, api.Ops, api.Ops + 1, 1000, 1<<32 + api.Addi, math.MaxInt - 1, math.MaxInt}

func (l line) has(part string) bool {
	_, parts, _ := strings.Cut(l.text, " ")
	return strings.Contains(parts, part)
}

// with: the operation with these, where it has such a part.
func (l line) with(rd, csr, rs1, rs2 int, imm int64) api.Insn {
	i := api.Insn{Op: l.op}
	if l.has("d") {
		i.Rd = rd
	}
	if l.has("c") {
		i.CSR = csr
	}
	if l.has("a") {
		i.Rs1 = rs1
	}
	if l.has("b") {
		i.Rs2 = rs2
	}
	if l.has("n") {
		i.Imm = imm
	}
	return i
}

// imms: both ends of the number, what stands beside them, each bit of it alone set and alone not set, and some between.
func (l line) imms() []int64 {
	n := numbers[l.number]
	if l.number == "" {
		return []int64{0}
	}
	all := []int64{n.least, n.least + n.step, 0, 10 * n.step, n.most - n.step, n.most}
	for k := range n.bits {
		one := n.step << k
		if one > n.most { // the bit of the sign
			one = n.least
		}
		all = append(all, one, n.least+n.most-one)
	}
	return all
}

// insns: each part at its least, its greatest, each bit alone, and ordinary ones, one part after the other.
func (l line) insns() []api.Insn {
	var all []api.Insn
	for _, imm := range l.imms() {
		all = append(all, l.with(5, 768, 6, 7, imm), l.with(0, 0, 0, 0, imm), l.with(31, 4095, 31, 31, imm))
	}
	for reg := range 32 {
		all = append(all, l.with(reg, 1, 2, 3, 0), l.with(1, 2, reg, 3, 0), l.with(1, 2, 3, reg, 0))
	}
	for bit := range 12 {
		all = append(all, l.with(1, 1<<bit, 2, 3, 0), l.with(1, 4095-1<<bit, 2, 3, 0))
	}
	return all
}

// wordOf: by sums and by bits one after the other, unlike the program's shifts of whole parts.
func (l line) wordOf(i api.Insn) uint32 {
	w := int64(l.word) + int64(i.Rd)*128 + int64(i.Rs1)*32768 + int64(i.Rs2)*1048576 + int64(i.CSR)*1048576
	n := numbers[l.number]
	left := i.Imm / n.step
	if left < 0 {
		left += 2 * (n.most/n.step + 1)
	}
	for _, at := range n.bits {
		if left%2 == 1 {
			w += 1 << at
		}
		left /= 2
	}
	return uint32(w)
}

// textOf: the line's text, each letter of a part replaced.
func (l line) textOf(i api.Insn) string {
	name, parts, some := strings.Cut(l.text, " ")
	if !some {
		return name
	}
	told := strings.NewReplacer("d", "x"+strconv.Itoa(i.Rd), "c", strconv.Itoa(i.CSR), "a", "x"+strconv.Itoa(i.Rs1),
		"b", "x"+strconv.Itoa(i.Rs2), "n", strconv.FormatInt(i.Imm, 10)).Replace(parts)
	return name + " " + told
}

// check: what the chapter asks of i, an instruction of that line.
func check(t *testing.T, l line, i api.Insn) {
	want := l.wordOf(i)
	w, e := encode.Encode(i)
	if w != want || e != api.OK {
		t.Errorf("P4.1: Encode(%+v) = %08x, %v, want %08x", i, w, e, want)
	}
	if got := encode.Text(i); got != l.textOf(i) {
		t.Errorf("P4.2: Text(%+v) = %q, want %q", i, got, l.textOf(i))
	}
	if k, e := decode.Decode(w); k != i || e != api.OK {
		t.Errorf("P4.3: Decode(%08x), which is Encode(%+v), = %+v, %v", w, i, k, e)
	}
	one := string([]byte{byte(want % 256), byte(want / 256 % 256), byte(want / 65536 % 256), byte(want / 16777216)})
	if p, e := encode.Program([]api.Insn{i}); p != one || e != api.OK {
		t.Errorf("P4.1: Program of %+v = %x, %v, want %x", i, p, e, one)
	}
}

// refuse: what the chapter asks of i, no instruction.
func refuse(t *testing.T, i api.Insn) {
	if insn.Is(i) {
		t.Errorf("Is(%+v)", i)
	}
	if w, e := encode.Encode(i); w != 0 || e != api.ErrInsn {
		t.Errorf("P4.1: Encode(%+v) = %08x, %v, want ErrInsn", i, w, e)
	}
	if got := encode.Text(i); got != "" {
		t.Errorf("P4.2: Text(%+v) = %q, want none", i, got)
	}
	if p, e := encode.Program([]api.Insn{i}); p != "" || e != api.ErrInsn {
		t.Errorf("P4.1: Program of %+v = %x, %v, want ErrInsn", i, p, e)
	}
}

func TestLinesAreAll(t *testing.T) {
	if len(lines) != api.Ops-1 {
		t.Fatalf("%d lines for %d operations", len(lines), api.Ops-1)
	}
	for k, l := range lines {
		if l.op != k+1 || l.has("n") != (l.number != "") {
			t.Errorf("line %d is of operation %d, with a number %q", k, l.op, l.number)
		}
	}
}

// Words that stand in books, and both ends of each kind of number.
func TestKnown(t *testing.T) {
	for _, c := range []struct {
		i api.Insn
		w uint32
		s string
	}{
		{api.Insn{Op: api.Addi, Rd: 1, Imm: 10}, 0x00a00093, "addi x1,x0,10"},
		{api.Insn{Op: api.Addi, Imm: -2048}, 0x80000013, "addi x0,x0,-2048"},
		{api.Insn{Op: api.Addi, Imm: 2047}, 0x7ff00013, "addi x0,x0,2047"},
		{api.Insn{Op: api.Jalr, Rs1: 1, Imm: -2048}, 0x80008067, "jalr x0,x1,-2048"},
		{api.Insn{Op: api.Ld, Rd: 1, Rs1: 1, Imm: 2047}, 0x7ff0b083, "ld x1,x1,2047"},
		{api.Insn{Op: api.Sb, Imm: -2048}, 0x80000023, "sb x0,x0,-2048"},
		{api.Insn{Op: api.Sb, Imm: 2047}, 0x7e000fa3, "sb x0,x0,2047"},
		{api.Insn{Op: api.Sw, Rs1: 2, Rs2: 1, Imm: 12}, 0x00112623, "sw x2,x1,12"},
		{api.Insn{Op: api.Beq, Imm: -4096}, 0x80000063, "beq x0,x0,-4096"},
		{api.Insn{Op: api.Beq, Imm: 4094}, 0x7e000fe3, "beq x0,x0,4094"},
		{api.Insn{Op: api.Beq, Imm: 2048}, 0x000000e3, "beq x0,x0,2048"},
		{api.Insn{Op: api.Bgeu, Rs1: 31, Rs2: 1, Imm: -2}, 0xfe1fffe3, "bgeu x31,x1,-2"},
		{api.Insn{Op: api.Lui, Imm: -2147483648}, 0x80000037, "lui x0,-2147483648"},
		{api.Insn{Op: api.Lui, Imm: 2147479552}, 0x7ffff037, "lui x0,2147479552"},
		{api.Insn{Op: api.Auipc, Rd: 31, Imm: -4096}, 0xffffff97, "auipc x31,-4096"},
		{api.Insn{Op: api.Jal, Imm: -1048576}, 0x8000006f, "jal x0,-1048576"},
		{api.Insn{Op: api.Jal, Imm: 1048574}, 0x7ffff06f, "jal x0,1048574"},
		{api.Insn{Op: api.Jal, Imm: 2048}, 0x0010006f, "jal x0,2048"},
		{api.Insn{Op: api.Jal, Rd: 1, Imm: 8}, 0x008000ef, "jal x1,8"},
		{api.Insn{Op: api.Slli, Rd: 1, Rs1: 1, Imm: 63}, 0x03f09093, "slli x1,x1,63"},
		{api.Insn{Op: api.Srai, Rd: 1, Rs1: 1, Imm: 63}, 0x43f0d093, "srai x1,x1,63"},
		{api.Insn{Op: api.Sraiw, Rd: 1, Rs1: 1, Imm: 31}, 0x41f0d09b, "sraiw x1,x1,31"},
		{api.Insn{Op: api.Sub, Rd: 10, Rs1: 10, Rs2: 11}, 0x40b50533, "sub x10,x10,x11"},
		{api.Insn{Op: api.Fence}, 0x0ff0000f, "fence"},
		{api.Insn{Op: api.FenceI}, 0x0000100f, "fence.i"},
		{api.Insn{Op: api.Ecall}, 0x00000073, "ecall"},
		{api.Insn{Op: api.Ebreak}, 0x00100073, "ebreak"},
		{api.Insn{Op: api.Mret}, 0x30200073, "mret"},
		{api.Insn{Op: api.Sret}, 0x10200073, "sret"},
		{api.Insn{Op: api.Wfi}, 0x10500073, "wfi"},
		{api.Insn{Op: api.Csrrw, Rs1: 5, CSR: 0x305}, 0x30529073, "csrrw x0,773,x5"},
		{api.Insn{Op: api.Csrrci, Rd: 31, Imm: 31, CSR: 4095}, 0xfffffff3, "csrrci x31,4095,31"},
		{api.Insn{Op: api.Csrrwi}, 0x00005073, "csrrwi x0,0,0"},
		{api.Insn{Op: api.SfenceVma}, 0x12000073, "sfence.vma x0,x0"},
		{api.Insn{Op: api.HfenceVvma, Rs1: 31, Rs2: 31}, 0x23ff8073, "hfence.vvma x31,x31"},
		{api.Insn{Op: api.HfenceGvma, Rs1: 1, Rs2: 2}, 0x62208073, "hfence.gvma x1,x2"},
		{api.Insn{Op: api.HlvW, Rd: 1, Rs1: 2}, 0x680140f3, "hlv.w x1,x2"},
		{api.Insn{Op: api.HlvxWu, Rd: 1, Rs1: 2}, 0x683140f3, "hlvx.wu x1,x2"},
		{api.Insn{Op: api.HlvD, Rd: 1, Rs1: 2}, 0x6c0140f3, "hlv.d x1,x2"},
		{api.Insn{Op: api.HsvD, Rs1: 1, Rs2: 2}, 0x6e20c073, "hsv.d x1,x2"},
	} {
		if w, e := encode.Encode(c.i); w != c.w || e != api.OK {
			t.Errorf("P4.1: Encode(%+v) = %08x, %v, want %08x", c.i, w, e, c.w)
		}
		if got := encode.Text(c.i); got != c.s {
			t.Errorf("P4.2: Text(%+v) = %q, want %q", c.i, got, c.s)
		}
		check(t, lines[c.i.Op-1], c.i)
	}
}

func TestEachPart(t *testing.T) {
	for _, l := range lines {
		for _, i := range l.insns() {
			check(t, l, i)
		}
	}
}

// Every number of the shorter kinds; of U and J a good many.
func TestEachNumber(t *testing.T) {
	for _, op := range []int{api.Addi, api.Sd, api.Bne, api.Lui, api.Jal, api.Srai, api.Sraiw, api.Csrrsi} {
		l := lines[op-1]
		n := numbers[l.number]
		step := n.step * max(1, (n.most-n.least)/n.step>>13)
		for imm := n.least; imm <= n.most; imm += step {
			check(t, l, l.with(21, 0x5a5, 10, 13, imm))
		}
	}
}

// A number beyond its bounds, or between two steps.
func TestNumberRefused(t *testing.T) {
	for _, l := range lines {
		n := numbers[l.number]
		for _, imm := range []int64{
			n.least - 1, n.least - n.step, n.most + 1, n.most + n.step, 2*n.least - n.step, 2*n.most + n.step,
			n.least + 1<<32, n.most + 1<<32, math.MinInt64, math.MaxInt64, math.MaxInt64 - 4095, -1 << 32, 1 << 32, 1 << 31, 1 << 40,
		} {
			i := l.with(5, 768, 6, 7, 0)
			i.Imm = imm
			refuse(t, i)
		}
		if n.step > 1 {
			for _, imm := range []int64{1, -1, n.step + 1, n.most - 1, n.least + 1, n.step / 2, n.step - 1} {
				refuse(t, l.with(5, 768, 6, 7, imm))
			}
		}
	}
}

// A part that the operation doesn't have, or that is beyond its bounds.
func TestPartRefused(t *testing.T) {
	for _, l := range lines {
		i := l.with(5, 768, 6, 7, 0)
		for _, p := range []struct {
			part string
			set  func(i api.Insn, n int) api.Insn
			many int
		}{
			{"d", func(i api.Insn, n int) api.Insn { i.Rd = n; return i }, 32},
			{"a", func(i api.Insn, n int) api.Insn { i.Rs1 = n; return i }, 32},
			{"b", func(i api.Insn, n int) api.Insn { i.Rs2 = n; return i }, 32},
			{"c", func(i api.Insn, n int) api.Insn { i.CSR = n; return i }, 4096},
		} {
			for _, n := range []int{math.MinInt, -4096, -32, -1, p.many, p.many + 1, 2 * p.many, 1 << 32, math.MaxInt} {
				refuse(t, p.set(i, n))
			}
			if l.has(p.part) {
				check(t, l, p.set(i, 0))
				check(t, l, p.set(i, p.many-1))
				continue
			}
			for _, n := range []int{1, 2, 16, 31} {
				refuse(t, p.set(i, n))
			}
		}
	}
}

func TestNoOperation(t *testing.T) {
	for _, op := range strangers {
		refuse(t, api.Insn{Op: op})
		refuse(t, api.Insn{Op: op, Rd: 1, Rs1: 2, Imm: 3})
	}
}

func TestProgram(t *testing.T) {
	addi, ecall, jal := api.Insn{Op: api.Addi, Rd: 1, Imm: 10}, api.Insn{Op: api.Ecall}, api.Insn{Op: api.Jal, Imm: -2}
	none, wide := api.Insn{}, api.Insn{Op: api.Addi, Imm: 2048}
	for _, c := range []struct {
		l []api.Insn
		p string
		e api.Errno
	}{
		{nil, "", api.OK},
		{[]api.Insn{}, "", api.OK},
		{[]api.Insn{addi}, "\x93\x00\xa0\x00", api.OK},
		{[]api.Insn{addi, ecall}, "\x93\x00\xa0\x00\x73\x00\x00\x00", api.OK},
		{[]api.Insn{jal, addi, addi}, "\x6f\xf0\xff\xff\x93\x00\xa0\x00\x93\x00\xa0\x00", api.OK},
		{[]api.Insn{none}, "", api.ErrInsn},
		{[]api.Insn{none, addi, ecall}, "", api.ErrInsn},
		{[]api.Insn{addi, none, ecall}, "", api.ErrInsn},
		{[]api.Insn{addi, ecall, none}, "", api.ErrInsn},
		{[]api.Insn{addi, wide, none, ecall}, "", api.ErrInsn},
	} {
		if p, e := encode.Program(c.l); p != c.p || e != c.e {
			t.Errorf("P4.1: Program(%+v) = %x, %v, want %x, %v", c.l, p, e, c.p, c.e)
		}
	}
}

// A long list: each word at its place, the list and its spare room as they were.
func TestProgramIsRead(t *testing.T) {
	var room []api.Insn
	for _, l := range lines {
		room = append(room, l.insns()...)
	}
	l := room[: len(room)-1 : len(room)]
	before := slices.Clone(room)
	p, e := encode.Program(l)
	if e != api.OK || len(p) != 4*len(l) {
		t.Fatalf("P4.1: Program of %d: %d bytes, %v", len(l), len(p), e)
	}
	for k, i := range l {
		w := uint32(word.Get(p, 4*k, 4))
		if got, e := decode.Decode(w); got != i || e != api.OK {
			t.Errorf("P4.3: word %d is %08x: %+v, %v, want %+v", k, w, got, e, i)
		}
	}
	if !slices.Equal(room, before) {
		t.Error("P4.1: Program changed its list")
	}
}

// again: what is read of w is written as w.
func again(t *testing.T, w uint32) {
	i, e := decode.Decode(w)
	if e != api.OK {
		return
	}
	if got, e := encode.Encode(i); got != w || e != api.OK {
		t.Errorf("P4.3: Encode(%+v), which is Decode(%08x), = %08x, %v", i, w, got, e)
	}
}

// Words of each row of the decoder's table: each opcode with each f3 and f7, and with parts of many kinds.
func TestReadIsWritten(t *testing.T) {
	parts := []struct{ rd, rs1, rs2 uint32 }{{0, 0, 0}, {31, 31, 31}, {1, 2, 3}, {0, 10, 3}, {21, 9, 0}, {0, 17, 2}}
	for w := range uint32(128 * 8 * 128) {
		for _, p := range parts {
			again(t, w%128|p.rd<<7|w/128%8<<12|p.rs1<<15|p.rs2<<20|w/1024<<25)
		}
	}
	r := rand.New(rand.NewSource(404))
	for _, l := range lines {
		again(t, l.word)
		for range 2000 {
			again(t, l.word^r.Uint32()&^0x7f)
			again(t, l.word^r.Uint32()&^0x707f)
			again(t, l.word|r.Uint32()&0x01ff8f80)
		}
	}
}

// No two instructions are one word, or one text.
func TestApart(t *testing.T) {
	words, texts := map[uint32]api.Insn{}, map[string]api.Insn{}
	for _, l := range lines {
		for _, i := range l.insns() {
			w, _ := encode.Encode(i)
			s := encode.Text(i)
			if k, ok := words[w]; ok && k != i {
				t.Errorf("P4.3: %+v and %+v: both %08x", k, i, w)
			}
			if k, ok := texts[s]; ok && k != i {
				t.Errorf("P4.2: %+v and %+v: both %q", k, i, s)
			}
			words[w], texts[s] = i, i
		}
	}
}
