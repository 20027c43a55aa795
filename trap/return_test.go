package trap_test

import (
	"strconv"
	"testing"

	"sallyport/api"
)

// Rows told by hand, so that a slip in the model would show.
func TestReturnKnown(t *testing.T) {
	for n, c := range []struct {
		ret    ret
		level  int
		v      bool
		before []change
		after  []change
		pc     uint64
		now    int
		guest  bool
	}{
		{mret, api.Machine, false, []change{{api.Mstatus, 0}}, []change{{api.Mstatus, 0x80}}, 0x2100, 0, false},
		{mret, api.Machine, false, []change{{api.Mstatus, 0x8}}, []change{{api.Mstatus, 0x80}}, 0x2100, 0, false},
		{mret, api.Machine, false, []change{{api.Mstatus, 0x80}}, []change{{api.Mstatus, 0x88}}, 0x2100, 0, false},
		{mret, api.Machine, false, []change{{api.Mstatus, 0x800}}, []change{{api.Mstatus, 0x80}}, 0x2100, 1, false},
		{mret, api.Machine, false, []change{{api.Mstatus, 0x1000}}, []change{{api.Mstatus, 0x80}}, 0x2100, 2, false},
		{mret, api.Machine, false, []change{{api.Mstatus, 0x1800}}, []change{{api.Mstatus, 0x80}}, 0x2100, 3, false},
		{mret, api.Machine, false, []change{{api.Mstatus, 0xc000000000}}, []change{{api.Mstatus, 0x4000000080}}, 0x2100, 0, true},
		{mret, api.Machine, false, []change{{api.Mstatus, 0xc000000800}}, []change{{api.Mstatus, 0x4000000080}}, 0x2100, 1, true},
		{mret, api.Machine, false, []change{{api.Mstatus, 0xc000001000}}, []change{{api.Mstatus, 0x4000000080}}, 0x2100, 2, true},
		{mret, api.Machine, false, []change{{api.Mstatus, 0xc000001800}}, []change{{api.Mstatus, 0x4000000080}}, 0x2100, 3, false},
		{mret, api.Machine, false, []change{{api.Mstatus, 0x122}, {api.Hstatus, 0x1c0}}, []change{{api.Mstatus, 0x1a2}}, 0x2100, 0, false},

		{sret, api.Super, false, []change{{api.Mstatus, 0}}, []change{{api.Mstatus, 0x20}}, 0x3100, 0, false},
		{sret, api.Super, false, []change{{api.Mstatus, 0x2}}, []change{{api.Mstatus, 0x20}}, 0x3100, 0, false},
		{sret, api.Super, false, []change{{api.Mstatus, 0x20}}, []change{{api.Mstatus, 0x22}}, 0x3100, 0, false},
		{sret, api.Super, false, []change{{api.Mstatus, 0x100}}, []change{{api.Mstatus, 0x20}}, 0x3100, 1, false},
		{sret, api.Super, false, []change{{api.Hstatus, 0x1c0}}, []change{{api.Mstatus, 0x20}, {api.Hstatus, 0x140}}, 0x3100, 0, true},
		{sret, api.Super, false, []change{{api.Mstatus, 0x100}, {api.Hstatus, 0x80}}, []change{{api.Mstatus, 0x20}, {api.Hstatus, 0}}, 0x3100, 1, true},
		{sret, api.Super, false, []change{{api.Hstatus, 0x140}}, []change{{api.Mstatus, 0x20}}, 0x3100, 0, false},
		{sret, api.Machine, false, []change{{api.Mstatus, 0x9900}, {api.Hstatus, 0x80}}, []change{{api.Mstatus, 0x9820}, {api.Hstatus, 0}}, 0x3100, 1, true},
		{sret, api.Machine, false, []change{{api.Mstatus, 0x400008}}, []change{{api.Mstatus, 0x400028}}, 0x3100, 0, false},

		{sret, api.Super, true, []change{{api.Vsstatus, 0}}, []change{{api.Vsstatus, 0x20}}, 0x4100, 0, true},
		{sret, api.Super, true, []change{{api.Vsstatus, 0x2}}, []change{{api.Vsstatus, 0x20}}, 0x4100, 0, true},
		{sret, api.Super, true, []change{{api.Vsstatus, 0x120}}, []change{{api.Vsstatus, 0x22}}, 0x4100, 1, true},
		{sret, api.Super, true, []change{{api.Mstatus, 0x4001aa}, {api.Hstatus, 0x1c0}}, []change{{api.Vsstatus, 0x20}}, 0x4100, 0, true},
		{sret, api.Super, true, []change{{api.Mstatus, 0x100}, {api.Vsstatus, 0x400100}}, []change{{api.Vsstatus, 0x400020}}, 0x4100, 1, true},
	} {
		s := api.State{PC: 0x1000, Level: c.level, V: c.v, Done: 5}
		s.C[api.Mepc], s.C[api.Sepc], s.C[api.Vsepc] = 0x2100, 0x3100, 0x4100
		s = changed(s, c.before)
		want := changed(s, c.after)
		want.PC, want.Level, want.V = c.pc, c.now, c.guest
		mustReturn(t, "row "+strconv.Itoa(n), c.ret, s, returned{want, 0, true})
	}
}

// Who may not: the state as it is, and why.
func TestReturnRefused(t *testing.T) {
	const tsr, vtsr = 1 << 22, 1 << 22
	for n, c := range []struct {
		ret    ret
		level  int
		v      bool
		before []change
		cause  uint64
	}{
		{mret, api.User, false, nil, api.Illegal},
		{mret, api.Super, false, nil, api.Illegal},
		{mret, api.User, true, nil, api.Illegal},
		{mret, api.Super, true, nil, api.Illegal},
		{mret, api.Super, true, []change{{api.Hstatus, all}, {api.Mstatus, all}}, api.Illegal},
		{sret, api.User, false, nil, api.Illegal},
		{sret, api.User, false, []change{{api.Hstatus, all}, {api.Mstatus, all}, {api.Vsstatus, all}}, api.Illegal},
		{sret, api.User, true, nil, api.Virtual},
		{sret, api.User, true, []change{{api.Mstatus, tsr}}, api.Virtual},
		{sret, api.User, true, []change{{api.Hstatus, vtsr}}, api.Virtual},
		{sret, api.Super, false, []change{{api.Mstatus, tsr}}, api.Illegal},
		{sret, api.Super, false, []change{{api.Mstatus, all}, {api.Hstatus, all}}, api.Illegal},
		{sret, api.Super, true, []change{{api.Hstatus, vtsr}}, api.Virtual},
		{sret, api.Super, true, []change{{api.Hstatus, vtsr}, {api.Mstatus, tsr}}, api.Virtual},
	} {
		s := changed(api.State{PC: 0x1000, Level: c.level, V: c.v, Done: 5}, c.before)
		mustReturn(t, "row "+strconv.Itoa(n), c.ret, s, returned{s, c.cause, false})
	}
}

// Each return from each level, with V and without it, with each set of the bits, with TSR and VTSR and without them, in a state of which every register holds a value of its own.
func TestReturn(t *testing.T) {
	for _, r := range rets {
		for _, level := range levels {
			for _, v := range both {
				for taken := range 4 {
					s := own(level, v)
					put(&s.C[api.Mstatus], 22, taken&1 != 0)
					put(&s.C[api.Hstatus], 22, taken&2 != 0)
					for set := range 1 << len(bits) {
						s := withBits(s, set)
						mustReturn(t, "own", r, s, r.want(s))
					}
					if t.Failed() {
						return
					}
				}
			}
		}
	}
}

// A level that is none counts as the machine's, so that it may; whether it is in a guest V tells.
func TestReturnFromNoLevels(t *testing.T) {
	for _, r := range rets {
		for _, level := range append(levels, noLevels...) {
			for _, v := range both {
				for _, s := range around(level, v) {
					for set := 0; set < 1<<len(bits); set += 37 {
						s := withBits(s, set)
						mustReturn(t, "around", r, s, r.want(s))
					}
				}
			}
		}
	}
}

// Where it goes on: the whole number, its lowest bits, too.
func TestReturnToPlaces(t *testing.T) {
	for _, pc := range []uint64{0, 1, 2, 3, 4, 0xffff, 0x10000, 1 << 32, 1<<63 + 1, all - 3, all} {
		for _, c := range []struct {
			ret   ret
			level int
			v     bool
			epc   int
		}{{mret, api.Machine, false, api.Mepc}, {sret, api.Super, false, api.Sepc}, {sret, api.Super, true, api.Vsepc}} {
			s := own(c.level, c.v)
			s.C[c.epc] = pc
			got, _, ok := c.ret.call(s)
			if got.PC != pc || !ok {
				t.Errorf("P16.2: %s to %x: %x, %v", c.ret.name, pc, got.PC, ok)
			}
		}
	}
}
