package alu

import (
	"sallyport/api"
	"sallyport/word"
)

// Deeds: what is done with two numbers, wherever the second one comes from.
const (
	sum = iota + 1
	difference
	less
	lessSigned
	exclusive
	either
	both
	up
	down
	downSigned
)

// half beside a deed: it is done with the lowest 32 bits.
const half = 0x80

const (
	wordBits = 64
	halfBits = 32
)

// The deed of each operation of the classes that Do is for.
var deeds = [api.Ops]uint8{
	api.Addi: sum, api.Slti: lessSigned, api.Sltiu: less, api.Xori: exclusive, api.Ori: either, api.Andi: both,
	api.Slli: up, api.Srli: down, api.Srai: downSigned,
	api.Addiw: half | sum, api.Slliw: half | up, api.Srliw: half | down, api.Sraiw: half | downSigned,
	api.Add: sum, api.Sub: difference, api.Sll: up, api.Slt: lessSigned, api.Sltu: less,
	api.Xor: exclusive, api.Srl: down, api.Sra: downSigned, api.Or: either, api.And: both,
	api.Addw: half | sum, api.Subw: half | difference,
	api.Sllw: half | up, api.Srlw: half | down, api.Sraw: half | downSigned,
}

func reckon(deed uint8, a, b uint64) uint64 {
	if deed&half != 0 {
		return word.Sext(within(halfBits, deed&^half, a, b), halfBits)
	}
	return within(wordBits, deed, a, b)
}

// within may leave anything above the width: what lies there never comes down again, for what shifts down cuts it off first.
func within(width int, deed uint8, a, b uint64) uint64 {
	switch deed {
	case sum:
		return a + b
	case difference:
		return a - b
	case less:
		return oneIf(a < b)
	case lessSigned:
		return oneIf(word.High(a, b))
	case exclusive:
		return a ^ b
	case either:
		return a | b
	case both:
		return a & b
	case up:
		return a << steps(width, b)
	case down:
		return word.Zext(a, width) >> steps(width, b)
	case downSigned:
		return uint64(int64(word.Sext(a, width)) >> steps(width, b))
	}
	return 0
}

// steps: the width is a power of two, so one less has just the bits that may count.
func steps(width int, b uint64) uint64 { return b & uint64(width-1) }

func oneIf(so bool) uint64 {
	if so {
		return 1
	}
	return 0
}
