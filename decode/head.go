package decode

import (
	"sallyport/api"
)

// Bits of a word that may tell its operation.
const (
	opcode = 0x7f
	atRd   = 0x1f << 7
	f3     = 0x7 << 12
	atRs2  = 0x1f << 20
	f7     = 0x7f << 25
	f6     = 0x3f << 26 // f7 without the bit that a shift's number needs
	whole  = 1<<32 - 1
)

// group: the bits that tell the operations from first to last.
type group struct {
	tells       uint32
	first, last int
}

var groups = [...]group{
	{opcode, api.Lui, api.Jal},
	{opcode | f3, api.Jalr, api.Andi},
	{opcode | f3 | f6, api.Slli, api.Srai},
	{opcode | f3, api.Addiw, api.Addiw},
	{opcode | f3 | f7, api.Slliw, api.Sraw},
	{whole, api.Fence, api.Ebreak},
	{opcode | f3, api.Csrrw, api.Csrrci},
	{whole, api.Mret, api.Wfi},
	{opcode | f3 | f7 | atRd, api.SfenceVma, api.HfenceGvma},
	{opcode | f3 | f7 | atRs2, api.HlvW, api.HlvxWu},
	{opcode | f3 | f7 | atRd, api.HsvD, api.HsvD},
}

// What stands in the bits that tell an operation; all other bits are noughts here.
var heads = [api.Ops]uint32{
	api.Lui: 0x37, api.Auipc: 0x17, api.Jal: 0x6f, api.Jalr: 0x67,
	api.Beq: 0x0063, api.Bne: 0x1063, api.Blt: 0x4063, api.Bge: 0x5063, api.Bltu: 0x6063, api.Bgeu: 0x7063,
	api.Lb: 0x0003, api.Lh: 0x1003, api.Lw: 0x2003, api.Ld: 0x3003, api.Lbu: 0x4003, api.Lhu: 0x5003, api.Lwu: 0x6003,
	api.Sb: 0x0023, api.Sh: 0x1023, api.Sw: 0x2023, api.Sd: 0x3023,
	api.Addi: 0x0013, api.Slti: 0x2013, api.Sltiu: 0x3013, api.Xori: 0x4013, api.Ori: 0x6013, api.Andi: 0x7013,
	api.Slli: 0x1013, api.Srli: 0x5013, api.Srai: 0x40005013,
	api.Addiw: 0x001b, api.Slliw: 0x101b, api.Srliw: 0x501b, api.Sraiw: 0x4000501b,
	api.Add: 0x0033, api.Sub: 0x40000033, api.Sll: 0x1033, api.Slt: 0x2033, api.Sltu: 0x3033,
	api.Xor: 0x4033, api.Srl: 0x5033, api.Sra: 0x40005033, api.Or: 0x6033, api.And: 0x7033,
	api.Addw: 0x003b, api.Subw: 0x4000003b, api.Sllw: 0x103b, api.Srlw: 0x503b, api.Sraw: 0x4000503b,
	api.Fence: 0x0ff0000f, api.FenceI: 0x0000100f, api.Ecall: 0x00000073, api.Ebreak: 0x00100073,
	api.Csrrw: 0x1073, api.Csrrs: 0x2073, api.Csrrc: 0x3073, api.Csrrwi: 0x5073, api.Csrrsi: 0x6073, api.Csrrci: 0x7073,
	api.Mret: 0x30200073, api.Sret: 0x10200073, api.Wfi: 0x10500073,
	api.SfenceVma: 0x12000073, api.HfenceVvma: 0x22000073, api.HfenceGvma: 0x62000073,
	api.HlvW: 0x68004073, api.HlvD: 0x6c004073, api.HlvxWu: 0x68304073, api.HsvD: 0x6e004073,
}
