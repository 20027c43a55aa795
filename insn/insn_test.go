package insn_test

import (
	"math"
	"slices"
	"strings"
	"sync"
	"testing"

	"sallyport/api"
	"sallyport/insn"
)

// line: one operation as the chapter tells it, written out by itself; the program has ranges of them.
type line struct {
	op          int
	name        string
	class, size int
	fields      string // of d, 1, 2, c: Rd, Rs1, Rs2, CSR
	imm         string // which of the bounds below
}

type bound struct{ low, high, step int64 }

var bounds = map[string]bound{
	"upper":  {-2147483648, 2147479552, 4096},
	"jump":   {-1048576, 1048574, 2},
	"branch": {-4096, 4094, 2},
	"near":   {-2048, 2047, 1},
	"six":    {0, 63, 1},
	"five":   {0, 31, 1},
	"none":   {0, 0, 1},
}

var lines = []line{
	{api.Lui, "lui", 1, 0, "d", "upper"},
	{api.Auipc, "auipc", 1, 0, "d", "upper"},
	{api.Jal, "jal", 1, 0, "d", "jump"},
	{api.Jalr, "jalr", 1, 0, "d1", "near"},
	{api.Beq, "beq", 2, 0, "12", "branch"},
	{api.Bne, "bne", 2, 0, "12", "branch"},
	{api.Blt, "blt", 2, 0, "12", "branch"},
	{api.Bge, "bge", 2, 0, "12", "branch"},
	{api.Bltu, "bltu", 2, 0, "12", "branch"},
	{api.Bgeu, "bgeu", 2, 0, "12", "branch"},
	{api.Lb, "lb", 3, 1, "d1", "near"},
	{api.Lh, "lh", 3, 2, "d1", "near"},
	{api.Lw, "lw", 3, 4, "d1", "near"},
	{api.Ld, "ld", 3, 8, "d1", "near"},
	{api.Lbu, "lbu", 3, 1, "d1", "near"},
	{api.Lhu, "lhu", 3, 2, "d1", "near"},
	{api.Lwu, "lwu", 3, 4, "d1", "near"},
	{api.Sb, "sb", 4, 1, "12", "near"},
	{api.Sh, "sh", 4, 2, "12", "near"},
	{api.Sw, "sw", 4, 4, "12", "near"},
	{api.Sd, "sd", 4, 8, "12", "near"},
	{api.Addi, "addi", 5, 0, "d1", "near"},
	{api.Slti, "slti", 5, 0, "d1", "near"},
	{api.Sltiu, "sltiu", 5, 0, "d1", "near"},
	{api.Xori, "xori", 5, 0, "d1", "near"},
	{api.Ori, "ori", 5, 0, "d1", "near"},
	{api.Andi, "andi", 5, 0, "d1", "near"},
	{api.Slli, "slli", 5, 0, "d1", "six"},
	{api.Srli, "srli", 5, 0, "d1", "six"},
	{api.Srai, "srai", 5, 0, "d1", "six"},
	{api.Addiw, "addiw", 5, 0, "d1", "near"},
	{api.Slliw, "slliw", 5, 0, "d1", "five"},
	{api.Srliw, "srliw", 5, 0, "d1", "five"},
	{api.Sraiw, "sraiw", 5, 0, "d1", "five"},
	{api.Add, "add", 6, 0, "d12", "none"},
	{api.Sub, "sub", 6, 0, "d12", "none"},
	{api.Sll, "sll", 6, 0, "d12", "none"},
	{api.Slt, "slt", 6, 0, "d12", "none"},
	{api.Sltu, "sltu", 6, 0, "d12", "none"},
	{api.Xor, "xor", 6, 0, "d12", "none"},
	{api.Srl, "srl", 6, 0, "d12", "none"},
	{api.Sra, "sra", 6, 0, "d12", "none"},
	{api.Or, "or", 6, 0, "d12", "none"},
	{api.And, "and", 6, 0, "d12", "none"},
	{api.Addw, "addw", 6, 0, "d12", "none"},
	{api.Subw, "subw", 6, 0, "d12", "none"},
	{api.Sllw, "sllw", 6, 0, "d12", "none"},
	{api.Srlw, "srlw", 6, 0, "d12", "none"},
	{api.Sraw, "sraw", 6, 0, "d12", "none"},
	{api.Fence, "fence", 7, 0, "", "none"},
	{api.FenceI, "fence.i", 7, 0, "", "none"},
	{api.Ecall, "ecall", 8, 0, "", "none"},
	{api.Ebreak, "ebreak", 8, 0, "", "none"},
	{api.Csrrw, "csrrw", 9, 0, "d1c", "none"},
	{api.Csrrs, "csrrs", 9, 0, "d1c", "none"},
	{api.Csrrc, "csrrc", 9, 0, "d1c", "none"},
	{api.Csrrwi, "csrrwi", 9, 0, "dc", "five"},
	{api.Csrrsi, "csrrsi", 9, 0, "dc", "five"},
	{api.Csrrci, "csrrci", 9, 0, "dc", "five"},
	{api.Mret, "mret", 10, 0, "", "none"},
	{api.Sret, "sret", 10, 0, "", "none"},
	{api.Wfi, "wfi", 10, 0, "", "none"},
	{api.SfenceVma, "sfence.vma", 11, 0, "12", "none"},
	{api.HfenceVvma, "hfence.vvma", 11, 0, "12", "none"},
	{api.HfenceGvma, "hfence.gvma", 11, 0, "12", "none"},
	{api.HlvW, "hlv.w", 12, 4, "d1", "none"},
	{api.HlvD, "hlv.d", 12, 8, "d1", "none"},
	{api.HlvxWu, "hlvx.wu", 12, 4, "d1", "none"},
	{api.HsvD, "hsv.d", 12, 8, "12", "none"},
}

// strangers: numbers that are no operation's.
var strangers = []int{math.MinInt, math.MinInt + 1, -1000, -api.Ops, -2, -1, 0, api.Ops, api.Ops + 1, 1000, 1<<32 + api.Addi, math.MaxInt - 1, math.MaxInt}

// numbers: each bound of a field, one below it, one past it, the least and the greatest int.
var numbers = []int{math.MinInt, -4096, -32, -1, 0, 1, 15, 30, 31, 32, 33, 64, 4094, 4095, 4096, 4097, 1 << 32, math.MaxInt}

func (l line) has(field string) bool { return strings.Contains(l.fields, field) }

// ordinary: the operation with a different number in each field that it has; Imm is one step above its lowest one, where there is a choice.
func (l line) ordinary() api.Insn {
	i := api.Insn{Op: l.op}
	if l.has("d") {
		i.Rd = 5
	}
	if l.has("1") {
		i.Rs1 = 6
	}
	if l.has("2") {
		i.Rs2 = 7
	}
	if l.has("c") {
		i.CSR = 768
	}
	if b := bounds[l.imm]; b.low < b.high {
		i.Imm = b.low + b.step
	}
	return i
}

// check: what the chapter asks of i, by good: whether it is an instruction.
func check(t *testing.T, i api.Insn, good bool) {
	t.Helper()
	var rd, rs1, rs2 int
	if good {
		rd, rs1, rs2 = i.Rd, i.Rs1, i.Rs2
	}
	if got := insn.Is(i); got != good {
		t.Errorf("P2.2: Is(%+v) = %v", i, got)
	}
	if got := insn.Writes(i); got != rd {
		t.Errorf("P2.2: Writes(%+v) = %d, want %d", i, got, rd)
	}
	if a, b := insn.Reads(i); a != rs1 || b != rs2 {
		t.Errorf("P2.2: Reads(%+v) = %d, %d, want %d, %d", i, a, b, rs1, rs2)
	}
}

// The first test, so that the table is made while several ask.
func TestAskedAtOnce(t *testing.T) {
	var all sync.WaitGroup
	for range 8 {
		all.Go(func() {
			for _, l := range lines {
				if name, class, size := insn.Listed(l.op); name != l.name || class != l.class || size != l.size {
					t.Errorf("P2.1: %s asked by several at once: %q, class %d, size %d", l.name, name, class, size)
				}
			}
		})
	}
	all.Wait()
}

func TestLinesAreAll(t *testing.T) {
	if len(lines) != api.Ops-1 {
		t.Fatalf("%d lines for %d operations", len(lines), api.Ops-1)
	}
	for k, l := range lines {
		if l.op != k+1 {
			t.Errorf("line %d is of operation %d", k, l.op)
		}
	}
}

func TestOperations(t *testing.T) {
	for _, l := range lines {
		if got := insn.Name(l.op); got != l.name {
			t.Errorf("P2.1: Name(%d) = %q, want %q", l.op, got, l.name)
		}
		if got := insn.Class(l.op); got != l.class {
			t.Errorf("P2.1: Class of %s = %d, want %d", l.name, got, l.class)
		}
		if got := insn.Size(l.op); got != l.size {
			t.Errorf("P2.1: Size of %s = %d, want %d", l.name, got, l.size)
		}
	}
}

func TestNoOperation(t *testing.T) {
	for _, op := range strangers {
		if n, c, s := insn.Name(op), insn.Class(op), insn.Size(op); n != "" || c != 0 || s != 0 {
			t.Errorf("P2.1: of %d: name %q, class %d, size %d", op, n, c, s)
		}
		check(t, api.Insn{Op: op}, false)
		check(t, api.Insn{Op: op, Rd: 1, Rs1: 2, Rs2: 3}, false)
		check(t, api.Insn{Op: op, Rd: 1, Rs1: 2, Rs2: 3, Imm: 4, CSR: 5}, false)
	}
}

// The table made once and the calls that do without it.
func TestListed(t *testing.T) {
	ops := slices.Clone(strangers)
	for op := -100; op <= api.Ops+100; op++ {
		ops = append(ops, op)
	}
	for _, op := range ops {
		name, class, size := insn.Listed(op)
		if name != insn.Name(op) || class != insn.Class(op) || size != insn.Size(op) {
			t.Errorf("P2.1: of %d the table has %q, class %d, size %d, the calls answer %q, %d, %d", op, name, class, size, insn.Name(op), insn.Class(op), insn.Size(op))
		}
	}
}

func TestOrdinary(t *testing.T) {
	for _, l := range lines {
		check(t, l.ordinary(), true)
		check(t, api.Insn{Op: l.op}, true)
	}
}

func TestRegisters(t *testing.T) {
	for _, l := range lines {
		for _, n := range numbers {
			good := n >= 0 && n <= 31
			i := l.ordinary()
			i.Rd = n
			check(t, i, n == 0 || good && l.has("d"))
			i = l.ordinary()
			i.Rs1 = n
			check(t, i, n == 0 || good && l.has("1"))
			i = l.ordinary()
			i.Rs2 = n
			check(t, i, n == 0 || good && l.has("2"))
		}
	}
}

func TestControl(t *testing.T) {
	for _, l := range lines {
		for _, n := range numbers {
			i := l.ordinary()
			i.CSR = n
			check(t, i, n == 0 || n > 0 && n <= 4095 && l.has("c"))
		}
	}
}

// multiple by going there from 0, unlike the program's remainder; the bounds are near enough for that.
func multiple(n, step int64) bool {
	k := int64(0)
	for k < n {
		k += step
	}
	for k > n {
		k -= step
	}
	return k == n
}

// imms: each bound of any operation, one step and one number below and past it, multiples that are beyond all, the least and the greatest.
func imms() []int64 {
	all := []int64{math.MinInt64, math.MinInt64 + 1, -1 << 62, -1 << 32, 1 << 32, 1 << 62, math.MaxInt64 - 4095, math.MaxInt64 - 1, math.MaxInt64}
	for _, b := range bounds {
		for _, edge := range []int64{b.low, 0, b.high} {
			for _, step := range []int64{1, 2, 3, 4, 2048, 4096} {
				all = append(all, edge-step, edge, edge+step)
			}
		}
	}
	slices.Sort(all)
	return slices.Compact(all)
}

func TestImm(t *testing.T) {
	all := imms()
	for _, l := range lines {
		b := bounds[l.imm]
		for _, n := range all {
			i := l.ordinary()
			i.Imm = n
			check(t, i, b.low <= n && n <= b.high && multiple(n, b.step))
		}
	}
}

// Rows of the chapter's table told as numbers, so that a slip in the lines above would show.
func TestImmKnown(t *testing.T) {
	for _, c := range []struct {
		op   int
		imm  int64
		good bool
	}{
		{api.Lui, -2147483648, true}, {api.Lui, -2147487744, false}, {api.Auipc, 2147479552, true}, {api.Auipc, 2147483648, false}, {api.Lui, 2048, false}, {api.Lui, 4096, true},
		{api.Jal, -1048576, true}, {api.Jal, -1048578, false}, {api.Jal, 1048574, true}, {api.Jal, 1048576, false}, {api.Jal, 1, false},
		{api.Jalr, -2048, true}, {api.Jalr, -2049, false}, {api.Jalr, 2047, true}, {api.Jalr, 2048, false}, {api.Jalr, 3, true},
		{api.Bne, -4096, true}, {api.Bne, -4098, false}, {api.Bge, 4094, true}, {api.Bge, 4096, false}, {api.Blt, -1, false},
		{api.Lwu, -2048, true}, {api.Lb, -2049, false}, {api.Lh, 2047, true}, {api.Ld, 2048, false},
		{api.Sb, -2048, true}, {api.Sh, -2049, false}, {api.Sw, 2047, true}, {api.Sd, 2048, false},
		{api.Addi, -2048, true}, {api.Andi, -2049, false}, {api.Addiw, 2047, true}, {api.Addiw, 2048, false}, {api.Addiw, -2048, true},
		{api.Slli, 0, true}, {api.Srli, 63, true}, {api.Srai, 64, false}, {api.Slli, -1, false},
		{api.Slliw, 0, true}, {api.Srliw, 31, true}, {api.Sraiw, 32, false}, {api.Sraiw, -1, false},
		{api.Add, 1, false}, {api.Sraw, -1, false}, {api.Csrrs, 1, false}, {api.Csrrsi, 31, true}, {api.Csrrsi, 32, false}, {api.Csrrwi, -1, false},
		{api.HfenceVvma, 1, false}, {api.HlvxWu, 1, false}, {api.HsvD, 8, false}, {api.Fence, 1, false}, {api.Ecall, 1, false}, {api.Wfi, -1, false},
	} {
		check(t, api.Insn{Op: c.op, Imm: c.imm}, c.good)
	}
}

// bumped: i with one field changed, each in its turn.
func bumped(i api.Insn) []api.Insn {
	out := []api.Insn{i, i, i, i, i, i}
	out[0].Op++
	out[1].Rd++
	out[2].Rs1++
	out[3].Rs2++
	out[4].Imm += 1 << 32
	out[5].CSR--
	return out
}

func TestSame(t *testing.T) {
	all := []api.Insn{{}, {Op: math.MinInt}, {Op: -1, Rd: 40, Rs1: -3, Rs2: math.MaxInt, Imm: math.MinInt64, CSR: 5000}}
	for _, l := range lines {
		all = append(all, l.ordinary())
	}
	for k, a := range all {
		for m, b := range all {
			if insn.Same(a, b) != (k == m) {
				t.Errorf("P2.2: Same(%+v, %+v) = %v", a, b, k != m)
			}
		}
		for _, b := range bumped(a) {
			if insn.Same(a, b) || insn.Same(b, a) {
				t.Errorf("P2.2: Same(%+v, %+v)", a, b)
			}
		}
	}
}

// waits: by the calls alone, whether later must have what earlier writes; register 0 is written by nobody.
func waits(earlier, later api.Insn) bool {
	w := insn.Writes(earlier)
	a, b := insn.Reads(later)
	return w != 0 && (w == a || w == b)
}

func TestWaits(t *testing.T) {
	for _, e := range lines {
		for _, l := range lines {
			for _, r := range []int{0, 1, 17, 31} {
				earlier, later, other := e.ordinary(), l.ordinary(), l.ordinary()
				if e.has("d") {
					earlier.Rd = r
				}
				if l.has("1") {
					later.Rs1 = r
				}
				if l.has("2") {
					other.Rs2 = r
				}
				if got, want := waits(earlier, later), r != 0 && e.has("d") && l.has("1"); got != want {
					t.Errorf("P2.3: by Rs1 %d: %+v waits for %+v: %v", r, later, earlier, got)
				}
				if got, want := waits(earlier, other), r != 0 && e.has("d") && l.has("2"); got != want {
					t.Errorf("P2.3: by Rs2 %d: %+v waits for %+v: %v", r, other, earlier, got)
				}
			}
		}
	}
}

func TestNobodyWaits(t *testing.T) {
	broken := api.Insn{Op: api.Add, Rd: 5, Rs1: 5, Rs2: 5, Imm: 1}
	whole := api.Insn{Op: api.Add, Rd: 5, Rs1: 5, Rs2: 5}
	if waits(broken, whole) || waits(whole, broken) || !waits(whole, whole) {
		t.Error("P2.3: what is no instruction waits, or is waited for, or an instruction isn't")
	}
}
