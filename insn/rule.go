package insn

import (
	"sallyport/api"
)

// How many numbers a field of a register has, and one of a register of control.
const (
	registers = 32
	controls  = 4096
)

// Fields that an operation may have beside Imm, which has bounds of its own.
const (
	rd = 1 << iota
	rs1
	rs2
	csr
)

// rule: what operations beside each other share. Imm is a multiple of step, from low to high.
type rule struct {
	class     int
	fields    int
	low, high int64
	step      int64
}

func (r rule) allows(imm int64) bool {
	return r.low <= imm && imm <= r.high && imm%r.step == 0
}

// group: the rule of the operations from first to last.
type group struct {
	first, last int
	rule        rule
}

// Both of the chapter's tables in one: a line ends where the class ends, or the fields, or the bounds of Imm.
var groups = [...]group{
	{api.Lui, api.Auipc, rule{1, rd, -1 << 31, 1<<31 - 4096, 4096}},
	{api.Jal, api.Jal, rule{1, rd, -1 << 20, 1<<20 - 2, 2}},
	{api.Jalr, api.Jalr, rule{1, rd | rs1, -2048, 2047, 1}},
	{api.Beq, api.Bgeu, rule{2, rs1 | rs2, -4096, 4094, 2}},
	{api.Lb, api.Lwu, rule{3, rd | rs1, -2048, 2047, 1}},
	{api.Sb, api.Sd, rule{4, rs1 | rs2, -2048, 2047, 1}},
	{api.Addi, api.Andi, rule{5, rd | rs1, -2048, 2047, 1}},
	{api.Slli, api.Srai, rule{5, rd | rs1, 0, 63, 1}},
	{api.Addiw, api.Addiw, rule{5, rd | rs1, -2048, 2047, 1}},
	{api.Slliw, api.Sraiw, rule{5, rd | rs1, 0, 31, 1}},
	{api.Add, api.Sraw, rule{6, rd | rs1 | rs2, 0, 0, 1}},
	{api.Fence, api.FenceI, rule{7, 0, 0, 0, 1}},
	{api.Ecall, api.Ebreak, rule{8, 0, 0, 0, 1}},
	{api.Csrrw, api.Csrrc, rule{9, rd | rs1 | csr, 0, 0, 1}},
	{api.Csrrwi, api.Csrrci, rule{9, rd | csr, 0, 31, 1}},
	{api.Mret, api.Wfi, rule{10, 0, 0, 0, 1}},
	{api.SfenceVma, api.HfenceGvma, rule{11, rs1 | rs2, 0, 0, 1}},
	{api.HlvW, api.HlvxWu, rule{12, rd | rs1, 0, 0, 1}},
	{api.HsvD, api.HsvD, rule{12, rs1 | rs2, 0, 0, 1}},
}

// ruleOf: of no operation it is the zero one, whose class is 0.
func ruleOf(op int) rule {
	for _, g := range groups {
		if g.first <= op && op <= g.last {
			return g.rule
		}
	}
	return rule{}
}

func sizeOf(op int) int {
	switch op {
	case api.Lb, api.Lbu, api.Sb:
		return 1
	case api.Lh, api.Lhu, api.Sh:
		return 2
	case api.Lw, api.Lwu, api.Sw, api.HlvW, api.HlvxWu:
		return 4
	case api.Ld, api.Sd, api.HlvD, api.HsvD:
		return 8
	}
	return 0
}

func nameOf(op int) string {
	if !below(op, api.Ops) {
		return ""
	}
	return names()[op]
}

func names() [api.Ops]string {
	return [api.Ops]string{
		api.Lui: "lui", api.Auipc: "auipc", api.Jal: "jal", api.Jalr: "jalr",
		api.Beq: "beq", api.Bne: "bne", api.Blt: "blt", api.Bge: "bge", api.Bltu: "bltu", api.Bgeu: "bgeu",
		api.Lb: "lb", api.Lh: "lh", api.Lw: "lw", api.Ld: "ld", api.Lbu: "lbu", api.Lhu: "lhu", api.Lwu: "lwu",
		api.Sb: "sb", api.Sh: "sh", api.Sw: "sw", api.Sd: "sd",
		api.Addi: "addi", api.Slti: "slti", api.Sltiu: "sltiu", api.Xori: "xori", api.Ori: "ori", api.Andi: "andi",
		api.Slli: "slli", api.Srli: "srli", api.Srai: "srai",
		api.Addiw: "addiw", api.Slliw: "slliw", api.Srliw: "srliw", api.Sraiw: "sraiw",
		api.Add: "add", api.Sub: "sub", api.Sll: "sll", api.Slt: "slt", api.Sltu: "sltu",
		api.Xor: "xor", api.Srl: "srl", api.Sra: "sra", api.Or: "or", api.And: "and",
		api.Addw: "addw", api.Subw: "subw", api.Sllw: "sllw", api.Srlw: "srlw", api.Sraw: "sraw",
		api.Fence: "fence", api.FenceI: "fence.i", api.Ecall: "ecall", api.Ebreak: "ebreak",
		api.Csrrw: "csrrw", api.Csrrs: "csrrs", api.Csrrc: "csrrc",
		api.Csrrwi: "csrrwi", api.Csrrsi: "csrrsi", api.Csrrci: "csrrci",
		api.Mret: "mret", api.Sret: "sret", api.Wfi: "wfi",
		api.SfenceVma: "sfence.vma", api.HfenceVvma: "hfence.vvma", api.HfenceGvma: "hfence.gvma",
		api.HlvW: "hlv.w", api.HlvD: "hlv.d", api.HlvxWu: "hlvx.wu", api.HsvD: "hsv.d",
	}
}
