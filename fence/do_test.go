package fence_test

import (
	"math"
	"slices"
	"strconv"
	"testing"

	"sallyport/api"
	"sallyport/fence"
	"sallyport/tlb"
)

// told: what a register's number names as a page, as a frame, as a mark.
var told = []struct {
	v                 uint64
	page, frame, mark int
}{
	{0, 0, 0, 0},
	{math.MaxUint64, 255, 255, 255},
	{1, 0, 0, 1},
	{0x3f, 0, 0, 0x3f},
	{0x40, 0, 1, 0x40},
	{0x80, 0, 2, 0x80},
	{0xff, 0, 3, 0xff},
	{0x100, 1, 4, 0},
	{0x1234, 0x12, 0x48, 0x34},
	{0x2000, 0x20, 0x80, 0},
	{0x3fc0, 0x3f, 0xff, 0xc0},
	{0x4000, 0x40, 0, 0},
	{0x8000, 0x80, 0, 0},
	{0xff00, 0xff, 0xfc, 0},
	{0x10000, 0, 0, 0},
	{0xfffffffffffe0300, 3, 12, 0},
	{0x8000000000000507, 5, 20, 7},
	{0xaaaaaaaaaaaaaaaa, 0xaa, 0xaa, 0xaa},
	{0x5555555555555555, 0x55, 0x55, 0x55},
	{1 << 63, 0, 0, 0},
	{0xffffffff00000000, 0, 0, 0},
}

// noRegisters: numbers that none has, and 0, that names nothing.
var noRegisters = []int{0, 32, 33, 63, 64, 256, 257, 1 << 32, 1<<32 + 1, math.MaxInt, -1, -31, -32, -255, -1 << 32, math.MinInt, math.MinInt + 1}

// fences: operations, and of calls the one that each is.
var fences = []struct {
	name string
	op   int
	call int
}{
	{"SfenceVma", api.SfenceVma, 0},
	{"HfenceVvma", api.HfenceVvma, 1},
	{"HfenceGvma", api.HfenceGvma, 2},
}

// mustDo: mustLeave of Do; the state and the instruction stay as they are.
func mustDo(t *testing.T, what string, entries []api.Entry, s api.State, i api.Insn, goes func(e api.Entry) bool) {
	t.Helper()
	was, insn := s, i
	what = "P14.2: " + what + ": Do of " + strconv.Itoa(i.Op) + ", Rs1 " + strconv.Itoa(i.Rs1) + ", Rs2 " + strconv.Itoa(i.Rs2) + ", Imm " + strconv.FormatInt(i.Imm, 10) + ", CSR " + strconv.FormatInt(int64(i.CSR), 16) + ", V " + strconv.FormatBool(s.V)
	mustLeave(t, what, entries, func(x *tlb.TLB) int { return fence.Do(x, s, i) }, goes)
	if s != was || i != insn {
		t.Errorf("%s: the state or the instruction changed", what)
	}
}

// around: entries of the numbers that a register's number might be read as, under each call's marks.
func around(page, frame, mark, vmid int) [][]api.Entry {
	e := api.Entry{Valid: true, V: true, Page: page, Asid: mark, Vmid: vmid, Guest: frame, Bits: 0xff, Host: 0xdf}
	guests := neighbours(e)
	hosts := neighbours(like(e, func(e *api.Entry) { e.Vmid = mark }))
	users := neighbours(like(e, func(e *api.Entry) { e.V = false }))
	return [][]api.Entry{guests, hosts, users}
}

// mustBeCall: Do of a fence is the call that the chapter says, of these numbers.
func mustBeCall(t *testing.T, what string, op, call int, s api.State, rs1, rs2, at, mark int, lists [][]api.Entry) {
	t.Helper()
	for _, all := range lists {
		mustDo(t, what, all, s, api.Insn{Op: op, Rs1: rs1, Rs2: rs2}, func(e api.Entry) bool { return calls[call].goes(e, s, at, mark) })
	}
}

// Two registers' numbers, in 1 and 31, in two that lie together, and in one and the same.
func TestDoOfRegisters(t *testing.T) {
	for _, f := range fences {
		for k, a := range told {
			b := told[(k*7+3)%len(told)]
			at, vmid := a.page, 77
			if f.op == api.HfenceGvma {
				at = a.frame
			}
			for _, r := range [][2]int{{1, 31}, {31, 1}, {16, 15}, {2, 3}} {
				for _, v := range []bool{false, true} {
					s := stateOf(v, marked(vmid, v))
					s.X[r[0]], s.X[r[1]] = a.v, b.v
					mustBeCall(t, f.name, f.op, f.call, s, r[0], r[1], at, b.mark, around(a.page, a.frame, b.mark, vmid))
				}
			}
			s := stateOf(true, marked(vmid, true))
			s.X[9] = a.v
			mustBeCall(t, f.name+" of one register twice", f.op, f.call, s, 9, 9, at, a.mark, around(a.page, a.frame, a.mark, vmid))
		}
	}
}

// Every register from 1 on is one; what the others hold isn't looked at.
func TestDoOfEachRegister(t *testing.T) {
	for _, f := range fences {
		for r := 1; r < 32; r++ {
			o := 32 - r
			s := stateOf(true, marked(77, false))
			s.X[o] = 0x2a
			s.X[r] = 0x1c40
			at, mark := 0x1c, 0x2a
			if f.op == api.HfenceGvma {
				at = 0x71
			}
			if r == o {
				mark = 0x40
			}
			mustBeCall(t, f.name, f.op, f.call, s, r, o, at, mark, around(0x1c, 0x71, mark, 77))
		}
	}
}

// Where a register is 0, or none, any page and any mark is meant, whatever X[0] tells.
func TestDoOfNoRegister(t *testing.T) {
	for _, f := range fences {
		for _, none := range noRegisters {
			for _, x0 := range []uint64{0, 0x1c05, math.MaxUint64} {
				for _, v := range []bool{false, true} {
					s := stateOf(v, marked(77, v))
					s.X[0], s.X[1], s.X[31] = x0, 0x1c05, 0x1c05
					at := 0x1c
					if f.op == api.HfenceGvma {
						at = 0x70
					}
					lists := around(0x1c, 0x70, 5, 77)
					mustBeCall(t, f.name, f.op, f.call, s, none, 1, whatever, 5, lists)
					mustBeCall(t, f.name, f.op, f.call, s, none, 31, whatever, 5, lists)
					mustBeCall(t, f.name, f.op, f.call, s, 1, none, at, whatever, lists)
					mustBeCall(t, f.name, f.op, f.call, s, 31, none, at, whatever, lists)
					mustBeCall(t, f.name, f.op, f.call, s, none, 0, whatever, whatever, lists)
					mustBeCall(t, f.name, f.op, f.call, s, 0, none, whatever, whatever, lists)
					mustBeCall(t, f.name, f.op, f.call, s, none, none, whatever, whatever, lists)
				}
			}
		}
	}
}

// A fence's other fields, which it hasn't, count for nothing.
func TestDoOfOtherFields(t *testing.T) {
	for _, f := range fences {
		for _, v := range []bool{false, true} {
			s := stateOf(v, marked(core.Vmid, false))
			at := 5
			if f.op == api.HfenceGvma {
				at = 9
			}
			s.X[3], s.X[4] = 5<<8, 6
			if f.op == api.HfenceGvma {
				s.X[3], s.X[4] = 9<<6, 7
			}
			for _, i := range []api.Insn{{Rd: 7}, {Rd: -1}, {Imm: 1}, {Imm: math.MinInt64}, {CSR: 0x180}, {CSR: 0x680, Imm: 5, Rd: 31}, {CSR: -1}} {
				i.Op, i.Rs1, i.Rs2 = f.op, 3, 4
				mustDo(t, f.name+" with other fields", neighbours(core), s, i, func(e api.Entry) bool { return calls[f.call].goes(e, s, at, int(s.X[4])) })
			}
		}
	}
}

func allGo(api.Entry) bool    { return true }
func noneGoes(api.Entry) bool { return false }

// controls: operations on registers of control, and whether they write without Rs1 and Imm.
var controls = []struct {
	op     int
	always bool
}{
	{api.Csrrw, true}, {api.Csrrs, false}, {api.Csrrc, false}, {api.Csrrwi, true}, {api.Csrrsi, false}, {api.Csrrci, false},
}

// roots: the numbers of Satp, Vsatp, Hgatp.
var roots = []int{0x180, 0x280, 0x680}

func TestDoOfRoots(t *testing.T) {
	for _, c := range controls {
		for _, number := range roots {
			for _, v := range []bool{false, true} {
				for _, rs1 := range append([]int{1, 15, 31}, noRegisters...) {
					for _, imm := range []int64{0, 1, 16, 31, 32, -1, 1 << 32, math.MaxInt64, math.MinInt64} {
						goes := noneGoes
						if c.always || rs1 != 0 || imm != 0 {
							goes = allGo
						}
						i := api.Insn{Op: c.op, Rs1: rs1, Imm: imm, CSR: number}
						mustDo(t, "of a root", neighbours(core), stateOf(v, marked(core.Vmid, true)), i, goes)
					}
				}
			}
		}
	}
}

// What would be written, and what else the instruction has, isn't asked.
func TestDoOfRootsWhateverTheyGet(t *testing.T) {
	for _, c := range controls {
		for _, number := range roots {
			for _, v := range []bool{false, true} {
				for _, i := range []api.Insn{{}, {Rd: 1}, {Rs2: 1}, {Rd: 31, Rs2: 31}, {Rd: -1, Rs2: -1}} {
					i.Op, i.CSR = c.op, number
					goes := noneGoes
					if c.always {
						goes = allGo
					}
					mustDo(t, "of a root, other fields", neighbours(core), api.State{V: v}, i, goes)
					i.Rs1 = 2
					mustDo(t, "of a root, by 0", neighbours(core), api.State{V: v}, i, allGo)
					s := stateOf(v, 0)
					s.X[2] = s.C[api.Satp]
					s.Level = api.User
					mustDo(t, "of a root, by what it is", neighbours(core), s, i, allGo)
				}
			}
		}
	}
}

// All go, however many there are.
func TestDoOfRootsOfHowMany(t *testing.T) {
	for n := range size + 1 {
		for _, number := range roots {
			mustDo(t, "of a root", neighbours(core)[:n], stateOf(n%2 == 0, 0), api.Insn{Op: api.Csrrw, Rs1: 1, CSR: number}, allGo)
		}
	}
}

// strangers: numbers that are none of the roots: all of twelve bits; such as would be roots if some of their bits alone counted; the roots' indices.
func strangers() []int {
	var out []int
	for n := range 4096 {
		if !slices.Contains(roots, n) {
			out = append(out, n)
		}
	}
	for _, n := range roots {
		out = append(out, -n, n+4096, n-4096, n+1<<16, n+1<<32, n+math.MinInt, ^n)
	}
	return append(out, -1, -2, math.MinInt, math.MaxInt, 180, 280)
}

func TestDoOfOtherControls(t *testing.T) {
	all := neighbours(core)
	x := tlbOf(t, all)
	for _, c := range controls {
		for _, number := range strangers() {
			for _, v := range []bool{false, true} {
				for _, i := range []api.Insn{{Rs1: 1}, {Imm: 1}, {}} {
					i.Op, i.CSR = c.op, number
					s := stateOf(v, marked(core.Vmid, false))
					if n := fence.Do(x, s, i); n != 0 {
						t.Fatalf("P14.2: Do of %+v, V %v: %d went", i, v, n)
					}
				}
			}
		}
	}
	if got := x.All(); !slices.Equal(got, all) {
		t.Errorf("P14.2: behind writes to other registers of control there are %+v", got)
	}
}

// noOps: numbers that are no operation, such as would be one if some of their bits alone counted.
func noOps() []int {
	out := []int{math.MinInt, math.MinInt + 1, -1 << 32, -256, -2, -1, 0, math.MaxInt, math.MaxInt - 1}
	for n := api.Ops; n < 300; n++ {
		out = append(out, n)
	}
	for op := 1; op < api.Ops; op++ {
		out = append(out, -op, op+128, op+256, op+1<<16, op+1<<32, op+math.MinInt)
	}
	return out
}

// acts: the operations of which something may go.
var acts = []int{api.SfenceVma, api.HfenceVvma, api.HfenceGvma, api.Csrrw, api.Csrrs, api.Csrrc, api.Csrrwi, api.Csrrsi, api.Csrrci}

func TestDoOfOthers(t *testing.T) {
	ops := noOps()
	for op := 1; op < api.Ops; op++ {
		if !slices.Contains(acts, op) {
			ops = append(ops, op)
		}
	}
	if len(ops)+len(acts) != len(noOps())+api.Ops-1 {
		t.Fatalf("P14.2: not all operations are asked")
	}
	for _, op := range ops {
		for _, i := range []api.Insn{{}, {Rs1: 1, Rs2: 1, Rd: 1, Imm: 1}, {Rs1: 1, Rs2: 2, Imm: -4, CSR: 0x180}, {CSR: 0x280}, {Imm: 1, CSR: 0x680}, {Rs1: -1, Rs2: 32, CSR: 0x680}} {
			for _, v := range []bool{false, true} {
				i.Op = op
				mustDo(t, "of another operation", neighbours(core), stateOf(v, marked(core.Vmid, false)), i, noneGoes)
			}
		}
	}
}
