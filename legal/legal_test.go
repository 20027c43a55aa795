package legal_test

import (
	"math"
	"slices"
	"testing"

	"sallyport/api"
	"sallyport/csr"
	"sallyport/insn"
	"sallyport/legal"
)

// What a row below wants is told by letters, one a level in this order: user, supervisor, machine, the guest's user, its supervisor; '-' it may, 'i' Illegal, 'v' Virtual.
var whos = []struct {
	name  string
	state api.State
	level int
}{
	{"user", api.State{Level: 0}, 0},
	{"supervisor", api.State{Level: 1}, 1},
	{"machine", api.State{Level: 3}, 3},
	{"guest's user", api.State{Level: 0, V: true}, 4},
	{"guest's supervisor", api.State{Level: 1, V: true}, 5},
}

// say: '?' of an answer that is none: a cause beside true, another cause beside false.
func say(cause uint64, ok bool) byte {
	switch {
	case ok && cause == 0:
		return '-'
	case !ok && cause == 2:
		return 'i'
	case !ok && cause == 22:
		return 'v'
	}
	return '?'
}

// The bits that are asked, by their names in the chapter.
const (
	tvm = 1 << iota
	tw
	tsr
	vtvm
	vtw
	vtsr
	hu
	sets // one more than all of them
)

// bits: where each of them stands.
var bits = []struct{ name, index, bit int }{
	{tvm, api.Mstatus, 20}, {tw, api.Mstatus, 21}, {tsr, api.Mstatus, 22},
	{vtvm, api.Hstatus, 20}, {vtw, api.Hstatus, 21}, {vtsr, api.Hstatus, 22}, {hu, api.Hstatus, 9},
}

// with: s with those of set on, the others off.
func with(s api.State, set int) api.State {
	for _, b := range bits {
		s.C[b.index] &^= 1 << b.bit
		if set&b.name != 0 {
			s.C[b.index] |= 1 << b.bit
		}
	}
	return s
}

// noisy: s with all else 0, and all else as far from it as can be: nothing of that is to be seen in an answer.
func noisy(s api.State) []api.State {
	full := s
	full.PC, full.Done = math.MaxUint64, math.MaxUint64
	for i := range full.X {
		full.X[i] = math.MaxUint64
	}
	for i := range full.C {
		full.C[i] = math.MaxUint64
	}
	return []api.State{s, full}
}

// asked: of each set of bits at each level, with noise and without, what ask says, against want, which is told the set.
func asked(t *testing.T, what string, ask func(api.State) (uint64, bool), want func(set int) string) {
	t.Helper()
	for k, w := range whos {
		for n, quiet := range noisy(w.state) {
			for set := range sets {
				s := with(quiet, set)
				if got := say(ask(s)); got != want(set)[k] {
					t.Errorf("%s: %s, bits %07b, noise %d: %c, want %c", what, w.name, set, n, got, want(set)[k])
				}
			}
		}
	}
}

func always(want string) func(int) string { return func(int) string { return want } }

// instead: want, but of the level at k that letter, if one of the bits is on.
func instead(want string, set, bit, k int, letter byte) string {
	if set&bit == 0 {
		return want
	}
	out := []byte(want)
	out[k] = letter
	return string(out)
}

// odd: levels that are none.
var odd = []int{math.MinInt, math.MinInt + 1, -1 << 32, -4, -3, -2, -1, 2, 4, 5, 6, 7, 9, 257, 1 << 32, 1<<32 + 1, math.MaxInt - 1, math.MaxInt}

func TestLevel(t *testing.T) {
	for _, w := range whos {
		for n, s := range noisy(w.state) {
			if got := legal.Level(s); got != w.level {
				t.Errorf("P9.1: Level of the %s, noise %d: %d, want %d", w.name, n, got, w.level)
			}
		}
	}
}

func TestLevelOfMachine(t *testing.T) {
	for _, level := range append([]int{3}, odd...) {
		for _, v := range []bool{false, true} {
			for n, s := range noisy(api.State{Level: level, V: v}) {
				if got := legal.Level(s); got != 3 {
					t.Errorf("P9.1: Level of %d, V %v, noise %d: %d, want 3", level, v, n, got)
				}
			}
		}
	}
}

// registers: each number that there is: read, written. Of 180 what it is without TVM and VTVM.
var registers = []struct {
	number      int
	read, wrote string
}{
	{0x300, "ii-ii", "ii-ii"},
	{0x302, "ii-ii", "ii-ii"},
	{0x303, "ii-ii", "ii-ii"},
	{0x304, "ii-ii", "ii-ii"},
	{0x305, "ii-ii", "ii-ii"},
	{0x340, "ii-ii", "ii-ii"},
	{0x341, "ii-ii", "ii-ii"},
	{0x342, "ii-ii", "ii-ii"},
	{0x343, "ii-ii", "ii-ii"},
	{0x34b, "ii-ii", "ii-ii"},
	{0x100, "i--v-", "i--v-"},
	{0x104, "i--v-", "i--v-"},
	{0x105, "i--v-", "i--v-"},
	{0x140, "i--v-", "i--v-"},
	{0x141, "i--v-", "i--v-"},
	{0x142, "i--v-", "i--v-"},
	{0x143, "i--v-", "i--v-"},
	{0x180, "i--v-", "i--v-"},
	{0x200, "i--vv", "i--vv"},
	{0x204, "i--vv", "i--vv"},
	{0x205, "i--vv", "i--vv"},
	{0x240, "i--vv", "i--vv"},
	{0x241, "i--vv", "i--vv"},
	{0x242, "i--vv", "i--vv"},
	{0x243, "i--vv", "i--vv"},
	{0x280, "i--vv", "i--vv"},
	{0x600, "i--vv", "i--vv"},
	{0x602, "i--vv", "i--vv"},
	{0x603, "i--vv", "i--vv"},
	{0x643, "i--vv", "i--vv"},
	{0x645, "i--vv", "i--vv"},
	{0x680, "i--vv", "i--vv"},
	{0xc02, "i--vv", "iiiii"},
}

func isNumber(number int) bool {
	for _, r := range registers {
		if r.number == number {
			return true
		}
	}
	return false
}

// satp: what is wanted of 180 with that set of bits.
func satp(want string, set int) string {
	return instead(instead(want, set, tvm, 1, 'i'), set, vtvm, 4, 'v')
}

// wanted: what is wanted of the register with that set of bits.
func wanted(number int, want string) func(int) string {
	if number != 0x180 {
		return always(want)
	}
	return func(set int) string { return satp(want, set) }
}

func TestRegistersAreAll(t *testing.T) {
	if len(registers) != api.CSRs+4 {
		t.Fatalf("the test's table has %d registers", len(registers))
	}
	for index := range api.CSRs {
		if !isNumber(csr.Number(index)) {
			t.Errorf("the test's table lacks %x", csr.Number(index))
		}
	}
}

func TestCsr(t *testing.T) {
	for _, r := range registers {
		asked(t, "P9.1: read of "+hex(r.number), func(s api.State) (uint64, bool) { return legal.Csr(s, r.number, false) }, wanted(r.number, r.read))
		asked(t, "P9.1: write of "+hex(r.number), func(s api.State) (uint64, bool) { return legal.Csr(s, r.number, true) }, wanted(r.number, r.wrote))
	}
}

func hex(n int) string {
	const digits = "0123456789abcdef"
	return string([]byte{digits[n>>8&15], digits[n>>4&15], digits[n&15]})
}

// Rows told as they stand in the chapter, so that a slip in the means above would show.
func TestCsrKnown(t *testing.T) {
	guest := api.State{Level: api.Super, V: true}
	host := api.State{Level: api.Super}
	marked := func(s api.State, index, bit int) api.State {
		s.C[index] = 1 << bit
		return s
	}
	for n, c := range []struct {
		s      api.State
		number int
		write  bool
		cause  uint64
		ok     bool
	}{
		{guest, 0x600, false, api.Virtual, false},
		{guest, 0x300, false, api.Illegal, false},
		{guest, 0x180, true, 0, true},
		{marked(guest, api.Hstatus, 20), 0x180, true, api.Virtual, false},
		{marked(guest, api.Hstatus, 20), 0x180, false, api.Virtual, false},
		{marked(guest, api.Mstatus, 20), 0x180, true, 0, true},
		{marked(guest, api.Vsstatus, 20), 0x180, true, 0, true},
		{marked(host, api.Mstatus, 20), 0x180, false, api.Illegal, false},
		{marked(host, api.Hstatus, 20), 0x180, false, 0, true},
		{marked(host, api.Mstatus, 20), 0x280, true, 0, true},
		{marked(host, api.Mstatus, 20), 0x680, true, 0, true},
		{marked(api.State{Level: api.Machine}, api.Mstatus, 20), 0x180, true, 0, true},
		{guest, 0xc02, false, api.Virtual, false},
		{guest, 0xc02, true, api.Illegal, false},
		{host, 0xc02, false, 0, true},
		{host, 0xc02, true, api.Illegal, false},
		{api.State{}, 0xc02, false, api.Illegal, false},
		{api.State{V: true}, 0xc02, false, api.Virtual, false},
		{api.State{Level: api.Machine}, 0xc02, false, 0, true},
		{api.State{Level: api.Machine}, 0xc02, true, api.Illegal, false},
	} {
		if cause, ok := legal.Csr(c.s, c.number, c.write); cause != c.cause || ok != c.ok {
			t.Errorf("P9.1: row %d: %d, %v, want %d, %v", n, cause, ok, c.cause, c.ok)
		}
	}
}

// strangers: beside each number that there is, the same in the lowest 12, 16, 32 bits, below 0, the ends of int.
func strangers() []int {
	out := []int{
		math.MinInt, math.MinInt + 1, math.MinInt + 0x300, -0x1000, -0x300, -2, -1, 0, 1, 3, 0x101, 0x102, 0x106, 0x144, 0x244, 0x301, 0x344, 0x644,
		0xbff, 0xc00, 0xc01, 0xc03, 0xf14, 0xfff, 0x1000, 0x1001, 0xffff, 0x10000, 100, 300, 180, math.MaxInt32, math.MaxInt - 1, math.MaxInt,
	}
	for _, r := range registers {
		n := r.number
		out = append(out, n-1, n+1, n^0x800, n^0x400, n^0x100, n^0x200, -n, n+0x1000, n-0x1000, n+0x10000, n+1<<32, n-1<<32, n+math.MinInt)
	}
	return slices.DeleteFunc(out, isNumber)
}

func TestCsrOfNone(t *testing.T) {
	for _, number := range strangers() {
		for _, write := range []bool{false, true} {
			for _, w := range whos {
				for n, s := range noisy(w.state) {
					if got := say(legal.Csr(s, number, write)); got != 'i' {
						t.Errorf("P9.1: %#x, write %v, %s, noise %d: %c, want i", number, write, w.name, n, got)
					}
				}
			}
		}
	}
}

func TestCsrOfAllNumbers(t *testing.T) {
	for number := -0x1100; number < 0x2200; number++ {
		if isNumber(number) {
			continue
		}
		for _, w := range whos {
			if got := say(legal.Csr(w.state, number, false)); got != 'i' {
				t.Errorf("P9.1: %#x, %s: %c, want i", number, w.name, got)
			}
		}
	}
}

// A level that is none may what the machine may, with V, too.
func TestOddLevels(t *testing.T) {
	for _, level := range append([]int{api.Machine}, odd...) {
		for _, v := range []bool{false, true} {
			for _, s := range noisy(api.State{Level: level, V: v}) {
				for _, r := range registers {
					if read, wrote := say(legal.Csr(s, r.number, false)), say(legal.Csr(s, r.number, true)); read != r.read[2] || wrote != r.wrote[2] {
						t.Errorf("P9.1: %x at level %d, V %v: read %c, written %c", r.number, level, v, read, wrote)
					}
				}
				for op := 1; op < api.Ops; op++ {
					if got := say(legal.Insn(s, whole(op))); got != '-' {
						t.Errorf("P9.2: %s at level %d, V %v: %c", insn.Name(op), level, v, got)
					}
				}
			}
		}
	}
}

// whole: an instruction of that operation; one of class 9 is of 140.
func whole(op int) api.Insn {
	if op >= api.Csrrw && op <= api.Csrrci {
		return api.Insn{Op: op, CSR: 0x140}
	}
	return api.Insn{Op: op}
}

// told: what the chapter says of operations beside class 9; all others may.
var told = map[int]func(set int) string{
	api.Mret: always("ii-ii"),
	api.Sret: func(set int) string {
		return instead(instead("i--v-", set, tsr, 1, 'i'), set, vtsr, 4, 'v')
	},
	api.Wfi: func(set int) string {
		if set&tw != 0 {
			return "ii-ii"
		}
		return instead("i--v-", set, vtw, 4, 'v')
	},
	api.SfenceVma:  func(set int) string { return satp("i--v-", set) },
	api.HfenceVvma: always("i--vv"),
	api.HfenceGvma: func(set int) string { return instead("i--vv", set, tvm, 1, 'i') },
	api.HlvW:       lent,
	api.HlvD:       lent,
	api.HlvxWu:     lent,
	api.HsvD:       lent,
}

func lent(set int) string { return instead("i--vv", set, hu, 0, '-') }

func may(op int) func(int) string {
	if want := told[op]; want != nil {
		return want
	}
	return always("-----")
}

// forms: an operation with all fields 0, and with each that it has not 0.
func forms(op int) []api.Insn {
	plain := api.Insn{Op: op}
	full := plain
	for _, i := range []api.Insn{{Rd: 31}, {Rs1: 31}, {Rs2: 31}, {Imm: 4096}, {Imm: 2}, {Imm: 1}} {
		next := full
		next.Rd, next.Rs1, next.Rs2 = next.Rd|i.Rd, next.Rs1|i.Rs1, next.Rs2|i.Rs2
		if next.Imm == 0 {
			next.Imm = i.Imm
		}
		if insn.Is(next) {
			full = next
		}
	}
	return []api.Insn{plain, full}
}

func TestInsn(t *testing.T) {
	for op := 1; op < api.Ops; op++ {
		if insn.Class(op) == 9 {
			continue
		}
		for _, i := range forms(op) {
			asked(t, "P9.2: "+insn.Name(op), func(s api.State) (uint64, bool) { return legal.Insn(s, i) }, may(op))
		}
	}
}

// Rows told as they stand in the chapter, so that a slip in the means above would show.
func TestInsnKnown(t *testing.T) {
	for n, c := range []struct {
		op   int
		m, h uint64
		want string
	}{
		{api.Mret, 7 << 20, 7<<20 | 1<<9, "ii-ii"},
		{api.Sret, 0, 0, "i--v-"}, {api.Sret, 1 << 22, 0, "ii-v-"}, {api.Sret, 0, 1 << 22, "i--vv"}, {api.Sret, 3 << 20, 3 << 20, "i--v-"}, {api.Sret, 1 << 22, 1 << 22, "ii-vv"},
		{api.Wfi, 0, 0, "i--v-"}, {api.Wfi, 1 << 21, 0, "ii-ii"}, {api.Wfi, 0, 1 << 21, "i--vv"}, {api.Wfi, 1 << 21, 1 << 21, "ii-ii"}, {api.Wfi, 5 << 20, 5 << 20, "i--v-"},
		{api.SfenceVma, 0, 0, "i--v-"}, {api.SfenceVma, 1 << 20, 0, "ii-v-"}, {api.SfenceVma, 0, 1 << 20, "i--vv"}, {api.SfenceVma, 6 << 20, 6 << 20, "i--v-"},
		{api.HfenceVvma, 0, 0, "i--vv"}, {api.HfenceVvma, 7 << 20, 7<<20 | 1<<9, "i--vv"},
		{api.HfenceGvma, 0, 0, "i--vv"}, {api.HfenceGvma, 1 << 20, 1 << 9, "ii-vv"}, {api.HfenceGvma, 6 << 20, 7 << 20, "i--vv"},
		{api.HlvW, 0, 0, "i--vv"}, {api.HlvD, 0, 1 << 9, "---vv"}, {api.HlvxWu, 7 << 20, 7 << 20, "i--vv"}, {api.HsvD, 7 << 20, 1 << 9, "---vv"}, {api.HlvW, 1 << 9, 0, "i--vv"},
		{api.Ecall, 7 << 20, 7 << 20, "-----"}, {api.Ebreak, 7 << 20, 7 << 20, "-----"}, {api.Fence, 7 << 20, 7 << 20, "-----"}, {api.FenceI, 7 << 20, 7 << 20, "-----"}, {api.Addi, 0, 0, "-----"},
	} {
		for k, w := range whos {
			s := w.state
			s.C[api.Mstatus], s.C[api.Hstatus] = c.m, c.h
			if got := say(legal.Insn(s, api.Insn{Op: c.op})); got != c.want[k] {
				t.Errorf("P9.2: row %d, %s: %c, want %c", n, w.name, got, c.want[k])
			}
		}
	}
}

func TestInsnOfNone(t *testing.T) {
	none := []api.Insn{
		{Op: api.Addi, Imm: 2048}, {Op: api.Addi, Rs2: 1}, {Op: api.Add, Rd: 32}, {Op: api.Add, Imm: 1}, {Op: api.Ecall, Rd: 1}, {Op: api.Fence, CSR: 1}, {Op: api.Lui, Imm: 1}, {Op: api.Jal, Imm: 3},
		{Op: api.Mret, Rd: 1}, {Op: api.Sret, Imm: 1}, {Op: api.Wfi, Rs1: 1}, {Op: api.SfenceVma, Rd: 1}, {Op: api.HfenceVvma, Rs1: 32}, {Op: api.HfenceGvma, Rs2: -1}, {Op: api.HlvW, Imm: 4}, {Op: api.HlvD, Rs2: 1}, {Op: api.HlvxWu, Rd: -1}, {Op: api.HsvD, Rd: 1},
		{Op: api.Csrrw, CSR: 0x140, Imm: 1}, {Op: api.Csrrs, CSR: 0x140, Rs1: 32}, {Op: api.Csrrc, CSR: 0x140, Rs2: 1}, {Op: api.Csrrwi, CSR: 0x140, Rs1: 1}, {Op: api.Csrrsi, CSR: 0x140, Imm: 32}, {Op: api.Csrrci, CSR: 0x140, Imm: -1}, {Op: api.Csrrw, CSR: 0x1140}, {Op: api.Csrrs, CSR: -1}, {Op: api.Csrrwi, CSR: math.MaxInt},
	}
	for _, op := range []int{math.MinInt, math.MinInt + 1, -api.Sret, -1, 0, api.Ops, api.Ops + 1, 1000, 1<<32 + api.Addi, math.MaxInt - 1, math.MaxInt} {
		none = append(none, api.Insn{Op: op}, api.Insn{Op: op, Rd: 1, Rs1: 2, Rs2: 3, Imm: 4, CSR: 0x140})
	}
	for _, i := range none {
		for _, w := range whos {
			for n, s := range noisy(w.state) {
				if got := say(legal.Insn(s, i)); got != 'i' {
					t.Errorf("P9.2: %+v, %s, noise %d: %c, want i", i, w.name, n, got)
				}
			}
		}
	}
}

// controls: the six of class 9 in all forms of a register, and whether they write.
func controls(number int) map[api.Insn]bool {
	out := map[api.Insn]bool{}
	for _, rd := range []int{0, 1, 31} {
		for _, n := range []int{0, 1, 2, 16, 31} {
			for _, op := range []int{api.Csrrw, api.Csrrs, api.Csrrc} {
				out[api.Insn{Op: op, Rd: rd, Rs1: n, CSR: number}] = op == api.Csrrw || n != 0
			}
			for _, op := range []int{api.Csrrwi, api.Csrrsi, api.Csrrci} {
				out[api.Insn{Op: op, Rd: rd, Imm: int64(n), CSR: number}] = op == api.Csrrwi || n != 0
			}
		}
	}
	return out
}

func TestControl(t *testing.T) {
	for _, r := range registers {
		for i, write := range controls(r.number) {
			want := r.read
			if write {
				want = r.wrote
			}
			asked(t, "P9.2: "+insn.Name(i.Op)+" of "+hex(r.number), func(s api.State) (uint64, bool) { return legal.Insn(s, i) }, wanted(r.number, want))
		}
	}
}

func TestControlOfNone(t *testing.T) {
	for number := range 4096 {
		if isNumber(number) {
			continue
		}
		for i := range controls(number) {
			for _, w := range whos {
				if got := say(legal.Insn(w.state, i)); got != 'i' {
					t.Errorf("P9.2: %+v, %s: %c, want i", i, w.name, got)
				}
			}
		}
	}
}

// guests: states of a guest's user, of its supervisor, with each set of bits.
func guests() []api.State {
	var out []api.State
	for _, level := range []int{api.User, api.Super} {
		for _, quiet := range noisy(api.State{Level: level, V: true}) {
			for set := range sets {
				out = append(out, with(quiet, set))
			}
		}
	}
	return out
}

// ownIndex: the registers that are a guest's: those that begin with vs.
func ownIndex(index int) bool { return index >= api.Vsstatus && index <= api.Vsatp }

// touched: what writing v to number (as a guest is redirected) changes that isn't the guest's. Of Mie its own two bits are.
func touched(s api.State, number int, v uint64) bool {
	got, _ := csr.Write(s, csr.Redirect(number), v)
	for index := range got.C {
		if ownIndex(index) {
			got.C[index] = s.C[index]
		}
	}
	const own = 1<<6 | 1<<10
	got.C[api.Mie] = got.C[api.Mie]&^own | s.C[api.Mie]&own
	return got != s
}

// shown: whether what is read by number (as a guest is redirected) hangs on what isn't the guest's.
func shown(s api.State, number int) bool {
	was, _ := csr.Read(s, csr.Redirect(number))
	for index := range s.C {
		if !ownIndex(index) && index != api.Mie {
			s.C[index] = ^s.C[index]
		}
	}
	s.C[api.Mie] ^= math.MaxUint64 &^ (1<<6 | 1<<10)
	s.Done = ^s.Done
	is, _ := csr.Read(s, csr.Redirect(number))
	return was != is
}

func TestGuestsRegisters(t *testing.T) {
	for _, s := range guests() {
		for number := -1; number <= 0x1000; number++ {
			if _, ok := legal.Csr(s, number, false); ok && shown(s, number) {
				t.Errorf("P9.3: a guest at level %d sees by %x what isn't its own", s.Level, number)
			}
			if _, ok := legal.Csr(s, number, true); ok && (touched(s, number, 0) || touched(s, number, math.MaxUint64)) {
				t.Errorf("P9.3: a guest at level %d changes by %x what isn't its own", s.Level, number)
			}
		}
	}
}

// The user of a guest has no register at all, its supervisor just those eight.
func TestGuestsOwn(t *testing.T) {
	own := []int{0x100, 0x104, 0x105, 0x140, 0x141, 0x142, 0x143, 0x180}
	for _, s := range guests() {
		taken := s.C[api.Hstatus]>>20&1 != 0
		for number := range 0x1000 {
			want := s.Level == api.Super && slices.Contains(own, number) && !(number == 0x180 && taken)
			for _, write := range []bool{false, true} {
				if _, ok := legal.Csr(s, number, write); ok != want {
					t.Errorf("P9.3: a guest at level %d, VTVM %v: %x, write %v: %v", s.Level, taken, number, write, ok)
				}
			}
		}
	}
}

// Of instructions beside those of class 9: what belongs to the machine or the host is refused in each state, what belongs to the guest's supervisor to its user.
func TestGuestsInstructions(t *testing.T) {
	never := []int{api.Mret, api.HfenceVvma, api.HfenceGvma, api.HlvW, api.HlvD, api.HlvxWu, api.HsvD}
	supers := []int{api.Sret, api.Wfi, api.SfenceVma}
	for _, s := range guests() {
		for op := 1; op < api.Ops; op++ {
			_, ok := legal.Insn(s, whole(op))
			switch {
			case slices.Contains(never, op) && ok:
				t.Errorf("P9.3: %s may be done by a guest at level %d", insn.Name(op), s.Level)
			case slices.Contains(supers, op) && s.Level == api.User && ok:
				t.Errorf("P9.3: %s may be done by a guest's user", insn.Name(op))
			}
		}
	}
}

// By an instruction a guest gets at nothing that it doesn't get at by Csr.
func TestGuestsControl(t *testing.T) {
	for _, s := range guests() {
		for _, r := range registers {
			for i, write := range controls(r.number) {
				_, ok := legal.Insn(s, i)
				if _, may := legal.Csr(s, r.number, write); ok && !may {
					t.Errorf("P9.3: %+v may be done by a guest at level %d", i, s.Level)
				}
			}
		}
	}
}
