package trap

import (
	"sallyport/api"
)

// taker: who takes a trap.
type taker struct {
	level int
	v     bool
}

// desk: where somebody who takes traps has what it is told, and what it needs to go back: registers of control by their index; of the register status the bits: whether its interrupts come, whether they were coming, the level, that many bits wide.
type desk struct {
	who               taker
	epc, cause, value int
	vector            int
	status            int
	come, were        int
	level, wide       int
}

var (
	machine = desk{
		who: taker{api.Machine, false},
		epc: api.Mepc, cause: api.Mcause, value: api.Mtval, vector: api.Mtvec,
		status: api.Mstatus, come: 3, were: 7, level: 11, wide: 2,
	}
	host = desk{
		who: taker{api.Super, false},
		epc: api.Sepc, cause: api.Scause, value: api.Stval, vector: api.Stvec,
		status: api.Mstatus, come: 1, were: 5, level: 8, wide: 1,
	}
	guest = desk{
		who: taker{api.Super, true},
		epc: api.Vsepc, cause: api.Vscause, value: api.Vstval, vector: api.Vstvec,
		status: api.Vsstatus, come: 1, were: 5, level: 8, wide: 1,
	}
)

// note: where those outside of guests have what they are told of the guest that a trap comes out of: the register of its place; of the register status the bits: V, GVA.
type note struct {
	place  int
	status int
	v, gva int
}

var (
	machineNote = note{place: api.Mtval2, status: api.Mstatus, v: 39, gva: 38}
	hostNote    = note{place: api.Htval, status: api.Hstatus, v: 7, gva: 6}
)

// spvp: of Hstatus, the level of the guest that was left last.
const spvp = 8
