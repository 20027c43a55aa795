package trap_test

import (
	"math"
	"strconv"
	"testing"

	"sallyport/api"
)

// change: what a row below has otherwise than before.
type change struct {
	index int
	v     uint64
}

// changed: s with these.
func changed(s api.State, list []change) api.State {
	for _, c := range list {
		s.C[c.index] = c.v
	}
	return s
}

// Rows told by hand, so that a slip in the model would show.
func TestEnterKnown(t *testing.T) {
	guestFault := api.Fault{Cause: api.GuestStore, Value: 0x4321, Place: 0x99, GVA: true}
	plain := api.Fault{Cause: api.Illegal, Value: 0x13, Place: 0x55}
	for n, c := range []struct {
		level  int
		v      bool
		before []change
		f      api.Fault
		to     way
		after  []change
		pc     uint64
		now    int
		guest  bool
	}{
		{api.User, false, []change{{api.Mstatus, 0x8}}, plain, ways[0], []change{{api.Mepc, 0x1000}, {api.Mcause, 2}, {api.Mtval, 0x13}, {api.Mtval2, 0x55}, {api.Mstatus, 0x80}}, 0x2000, 3, false},
		{api.User, false, []change{{api.Mstatus, 0x80}}, plain, ways[0], []change{{api.Mepc, 0x1000}, {api.Mcause, 2}, {api.Mtval, 0x13}, {api.Mtval2, 0x55}, {api.Mstatus, 0}}, 0x2000, 3, false},
		{api.Super, false, []change{{api.Mstatus, 0x1000}}, plain, ways[0], []change{{api.Mepc, 0x1000}, {api.Mcause, 2}, {api.Mtval, 0x13}, {api.Mtval2, 0x55}, {api.Mstatus, 0x800}}, 0x2000, 3, false},
		{api.Machine, false, []change{{api.Mstatus, 0x88}}, plain, ways[0], []change{{api.Mepc, 0x1000}, {api.Mcause, 2}, {api.Mtval, 0x13}, {api.Mtval2, 0x55}, {api.Mstatus, 0x1880}}, 0x2000, 3, false},
		{api.User, true, nil, guestFault, ways[0], []change{{api.Mepc, 0x1000}, {api.Mcause, 23}, {api.Mtval, 0x4321}, {api.Mtval2, 0x99}, {api.Mstatus, 0xc000000000}}, 0x2000, 3, false},
		{api.Super, true, []change{{api.Mstatus, 0x4000000000}, {api.Hstatus, 0x1c0}}, plain, ways[0], []change{{api.Mepc, 0x1000}, {api.Mcause, 2}, {api.Mtval, 0x13}, {api.Mtval2, 0x55}, {api.Mstatus, 0x8000000800}}, 0x2000, 3, false},
		{api.User, false, []change{{api.Mstatus, 0x8000000000}}, guestFault, ways[0], []change{{api.Mepc, 0x1000}, {api.Mcause, 23}, {api.Mtval, 0x4321}, {api.Mtval2, 0x99}, {api.Mstatus, 0x4000000000}}, 0x2000, 3, false},

		{api.User, false, []change{{api.Mstatus, 0x2}}, plain, ways[1], []change{{api.Sepc, 0x1000}, {api.Scause, 2}, {api.Stval, 0x13}, {api.Htval, 0x55}, {api.Mstatus, 0x20}}, 0x3000, 1, false},
		{api.User, false, []change{{api.Mstatus, 0x120}, {api.Hstatus, 0x1c0}}, plain, ways[1], []change{{api.Sepc, 0x1000}, {api.Scause, 2}, {api.Stval, 0x13}, {api.Htval, 0x55}, {api.Mstatus, 0}, {api.Hstatus, 0x100}}, 0x3000, 1, false},
		{api.Super, false, []change{{api.Mstatus, 0x8}}, plain, ways[1], []change{{api.Sepc, 0x1000}, {api.Scause, 2}, {api.Stval, 0x13}, {api.Htval, 0x55}, {api.Mstatus, 0x108}}, 0x3000, 1, false},
		{api.User, true, []change{{api.Hstatus, 0x100}}, guestFault, ways[1], []change{{api.Sepc, 0x1000}, {api.Scause, 23}, {api.Stval, 0x4321}, {api.Htval, 0x99}, {api.Hstatus, 0xc0}}, 0x3000, 1, false},
		{api.Super, true, []change{{api.Hstatus, 0x40}, {api.Mstatus, 0x22}}, plain, ways[1], []change{{api.Sepc, 0x1000}, {api.Scause, 2}, {api.Stval, 0x13}, {api.Htval, 0x55}, {api.Mstatus, 0x120}, {api.Hstatus, 0x180}}, 0x3000, 1, false},

		{api.User, true, []change{{api.Vsstatus, 0x2}, {api.Mstatus, 0xaa}, {api.Hstatus, 0x100}}, guestFault, ways[2], []change{{api.Vsepc, 0x1000}, {api.Vscause, 23}, {api.Vstval, 0x4321}, {api.Vsstatus, 0x20}}, 0x4000, 1, true},
		{api.User, true, []change{{api.Vsstatus, 0x120}}, plain, ways[2], []change{{api.Vsepc, 0x1000}, {api.Vscause, 2}, {api.Vstval, 0x13}, {api.Vsstatus, 0}}, 0x4000, 1, true},
		{api.Super, true, []change{{api.Vsstatus, 0xc0022}}, plain, ways[2], []change{{api.Vsepc, 0x1000}, {api.Vscause, 2}, {api.Vstval, 0x13}, {api.Vsstatus, 0xc0120}}, 0x4000, 1, true},
	} {
		s := api.State{PC: 0x1000, Level: c.level, V: c.v, Done: 5}
		s.C[api.Mtvec], s.C[api.Stvec], s.C[api.Vstvec] = 0x2000, 0x3000, 0x4000
		s = changed(s, c.before)
		want := changed(s, c.after)
		want.PC, want.Level, want.V = c.pc, c.now, c.guest
		mustEnter(t, "row "+strconv.Itoa(n), s, c.f, c.to.level, c.to.v, want)
	}
}

// Each way in, from each level, with V and without it, with each set of the bits, in a state of which every register holds a value of its own.
func TestEnter(t *testing.T) {
	for _, w := range ways {
		for _, level := range levels {
			for _, v := range both {
				s := own(level, v)
				for set := range 1 << len(bits) {
					s, f := withBits(s, set), faults[1+set%2]
					mustEnter(t, w.name, s, f, w.level, w.v, entered(s, f, w.level, w.v))
				}
				if t.Failed() {
					return
				}
			}
		}
	}
}

// The fault's parts, each alone and all, go where they go, whatever is around.
func TestEnterOfFaults(t *testing.T) {
	list := append([]api.Fault{{Cause: all}, {Value: all}, {Place: all}, {GVA: true}, {Cause: 63}, {Cause: 64}}, faults...)
	for _, w := range ways {
		for _, level := range append(levels, noLevels...) {
			for _, v := range both {
				for _, s := range around(level, v) {
					for _, f := range list {
						mustEnter(t, w.name, s, f, w.level, w.v, entered(s, f, w.level, w.v))
					}
				}
			}
		}
	}
}

// Where it was and where it goes on: the whole numbers, their lowest bits, too.
func TestEnterOfPlaces(t *testing.T) {
	places := []uint64{0, 1, 2, 3, 4, 0xffff, 0x10000, 1 << 32, 1<<63 + 1, all - 3, all}
	for _, w := range ways {
		for _, from := range places {
			for _, to := range places {
				s := own(api.User, true)
				s.PC = from
				s.C[w.vector] = to
				want := entered(s, faults[1], w.level, w.v)
				if want.PC != to || want.C[w.epc] != from {
					t.Fatalf("the model goes to %x", want.PC)
				}
				mustEnter(t, w.name, s, faults[1], w.level, w.v, want)
			}
		}
	}
}

// A level that is none is noted by its lowest bits.
func TestEnterFromNoLevels(t *testing.T) {
	for _, c := range []struct {
		level    int
		mpp, spp uint64
	}{{2, 2, 0}, {-1, 3, 1}, {-2, 2, 0}, {-3, 1, 1}, {-4, 0, 0}, {4, 0, 0}, {5, 1, 1}, {6, 2, 0}, {7, 3, 1}, {1 << 32, 0, 0}, {1<<32 + 1, 1, 1}, {math.MinInt, 0, 0}, {math.MaxInt, 3, 1}} {
		for _, v := range both {
			s := api.State{Level: c.level, V: v}
			note := uint64(0)
			if v {
				note = 1
			}
			want := api.State{Level: api.Machine}
			want.C[api.Mstatus] = c.mpp<<11 | note<<39
			mustEnter(t, "the machine", s, api.Fault{}, api.Machine, false, want)
			want = api.State{Level: api.Super}
			want.C[api.Mstatus] = c.spp << 8
			want.C[api.Hstatus] = note<<7 | note*c.spp<<8
			mustEnter(t, "the supervisor", s, api.Fault{}, api.Super, false, want)
			if v {
				want = api.State{Level: api.Super, V: true}
				want.C[api.Vsstatus] = c.spp << 8
				mustEnter(t, "the guest's", s, api.Fault{}, api.Super, true, want)
			}
		}
	}
}

// Nobody is there who takes it: the state as it is.
func TestEnterOfNobody(t *testing.T) {
	for _, level := range append(levels, noLevels...) {
		for _, v := range both {
			for _, s := range around(level, v) {
				for _, f := range faults {
					for _, to := range append([]int{api.User}, noLevels...) {
						mustEnter(t, "another level", s, f, to, false, s)
						mustEnter(t, "another level", s, f, to, true, s)
					}
					mustEnter(t, "the machine's with v", s, f, api.Machine, true, s)
					if !v {
						mustEnter(t, "a guest's without V", s, f, api.Super, true, s)
					}
				}
			}
		}
	}
}
