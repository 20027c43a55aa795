package encode

import (
	"sallyport/api"
)

// controls: the class of what reads and writes registers of control.
const controls = 9

// Parts that an operation may have, in the order in which they are told.
const (
	rd = 1 << iota
	csr
	rs1
	rs2
	imm
)

// kind: what the operations from first to last share: their opcode, and which parts they have.
type kind struct {
	first, last int
	opcode      uint8
	parts       int
}

var kinds = [...]kind{
	{api.Lui, api.Lui, 0x37, rd | imm},
	{api.Auipc, api.Auipc, 0x17, rd | imm},
	{api.Jal, api.Jal, 0x6f, rd | imm},
	{api.Jalr, api.Jalr, 0x67, rd | rs1 | imm},
	{api.Beq, api.Bgeu, 0x63, rs1 | rs2 | imm},
	{api.Lb, api.Lwu, 0x03, rd | rs1 | imm},
	{api.Sb, api.Sd, 0x23, rs1 | rs2 | imm},
	{api.Addi, api.Srai, 0x13, rd | rs1 | imm},
	{api.Addiw, api.Sraiw, 0x1b, rd | rs1 | imm},
	{api.Add, api.And, 0x33, rd | rs1 | rs2},
	{api.Addw, api.Sraw, 0x3b, rd | rs1 | rs2},
	{api.Fence, api.FenceI, 0x0f, 0},
	{api.Ecall, api.Ebreak, 0x73, 0},
	{api.Csrrw, api.Csrrc, 0x73, rd | csr | rs1},
	{api.Csrrwi, api.Csrrci, 0x73, rd | csr | imm},
	{api.Mret, api.Wfi, 0x73, 0},
	{api.SfenceVma, api.HfenceGvma, 0x73, rs1 | rs2},
	{api.HlvW, api.HlvxWu, 0x73, rd | rs1},
	{api.HsvD, api.HsvD, 0x73, rs1 | rs2},
}

// f3 of each operation; those that aren't named here have 0 there, or another part.
var f3s = [api.Ops]uint8{
	api.Bne: 1, api.Blt: 4, api.Bge: 5, api.Bltu: 6, api.Bgeu: 7,
	api.Lh: 1, api.Lw: 2, api.Ld: 3, api.Lbu: 4, api.Lhu: 5, api.Lwu: 6,
	api.Sh: 1, api.Sw: 2, api.Sd: 3,
	api.Slti: 2, api.Sltiu: 3, api.Xori: 4, api.Ori: 6, api.Andi: 7, api.Slli: 1, api.Srli: 5, api.Srai: 5,
	api.Slliw: 1, api.Srliw: 5, api.Sraiw: 5,
	api.Sll: 1, api.Slt: 2, api.Sltu: 3, api.Xor: 4, api.Srl: 5, api.Sra: 5, api.Or: 6, api.And: 7,
	api.Sllw: 1, api.Srlw: 5, api.Sraw: 5, api.FenceI: 1,
	api.Csrrw: 1, api.Csrrs: 2, api.Csrrc: 3, api.Csrrwi: 5, api.Csrrsi: 6, api.Csrrci: 7,
	api.HlvW: 4, api.HlvD: 4, api.HlvxWu: 4, api.HsvD: 4,
}

// What stands at atTop to tell an operation, above the parts that may stand there too; 0 for those that aren't named.
var tops = [api.Ops]uint16{
	api.Srai: 0x400, api.Sraiw: 0x400,
	api.Sub: 0x400, api.Sra: 0x400, api.Subw: 0x400, api.Sraw: 0x400,
	api.Fence: 0x0ff, api.Ebreak: 0x001, api.Mret: 0x302, api.Sret: 0x102, api.Wfi: 0x105,
	api.SfenceVma: 0x120, api.HfenceVvma: 0x220, api.HfenceGvma: 0x620,
	api.HlvW: 0x680, api.HlvD: 0x6c0, api.HlvxWu: 0x683, api.HsvD: 0x6e0,
}

// kindOf: of no operation it is the zero one, which has no part.
func kindOf(op int) kind {
	for _, k := range kinds {
		if k.first <= op && op <= k.last {
			return k
		}
	}
	return kind{}
}
