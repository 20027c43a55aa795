package legal

import (
	"sallyport/api"
)

// Classes of instructions that are asked about in their own way.
const (
	control     = 9
	guestAccess = 12
)

// readOnly: numbers from here on can't be written by anyone.
const readOnly = 0xc00

// A guest's levels stand that much higher than the host's.
const (
	guest      = 4
	guestUser  = guest + api.User
	guestSuper = guest + api.Super
	levels     = guestSuper + 1
)

// Bits of Mstatus, and, for guests, of Hstatus, by which something is taken from the supervisor: TVM, TW, TSR, VTVM, VTW, VTSR.
const (
	tvm = 1 << 20
	tw  = 1 << 21
	tsr = 1 << 22
)

// hu: of Hstatus.
const hu = 1 << 9

// Whose something is. The numbers are those of bits 8 and 9 of a register's number.
const (
	everyones = iota
	supers    // the supervisor's; in a guest, its own one's
	hosts
	machines
)

// causes: what comes of trying what is somebody's, by owner and by Level; 0: it may be done.
var causes = [...][levels]uint64{
	everyones: {},
	supers:    {api.User: api.Illegal, guestUser: api.Virtual},
	hosts:     {api.User: api.Illegal, guestUser: api.Virtual, guestSuper: api.Virtual},
	machines:  {api.User: api.Illegal, api.Super: api.Illegal, guestUser: api.Illegal, guestSuper: api.Illegal},
}

// right: whose something is, and the bit by which it is taken from the supervisor nevertheless (0: none).
type right struct {
	owner int
	taken uint64
}

// numbers: those of which bits 8 and 9 don't tell all.
var numbers = [...]struct {
	number int
	right  right
}{
	{0x180, right{supers, tvm}},
	{0xc02, right{hosts, 0}},
}

// operations, from first to last: those that aren't everyone's.
var operations = [...]struct {
	first, last int
	right       right
}{
	{api.Mret, api.Mret, right{machines, 0}},
	{api.Sret, api.Sret, right{supers, tsr}},
	{api.Wfi, api.Wfi, right{supers, tw}},
	{api.SfenceVma, api.SfenceVma, right{supers, tvm}},
	{api.HfenceVvma, api.HfenceVvma, right{hosts, 0}},
	{api.HfenceGvma, api.HfenceGvma, right{hosts, tvm}},
	{api.HlvW, api.HsvD, right{hosts, 0}},
}

func ofNumber(number int) right {
	for _, n := range numbers {
		if n.number == number {
			return n.right
		}
	}
	return right{owner: number >> 8 & 3}
}

func ofOperation(op int) right {
	for _, o := range operations {
		if o.first <= op && op <= o.last {
			return o.right
		}
	}
	return right{owner: everyones}
}

// answer: what isn't refused to a level can still be taken from it: by the machine from the supervisor, by the host from a guest's.
func (r right) answer(s api.State) (uint64, bool) {
	level := Level(s)
	cause := causes[r.owner][level]
	switch {
	case level == api.Super && s.C[api.Mstatus]&r.taken != 0:
		cause = api.Illegal
	case level == guestSuper && s.C[api.Hstatus]&r.taken != 0:
		cause = api.Virtual
	}
	return cause, cause == 0
}
