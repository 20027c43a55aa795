package csr_test

import (
	"math"
	"testing"

	"sallyport/api"
	"sallyport/csr"
)

// known: the chapter's table as it stands there, a row a register, by bits' numbers and not by masks.
var known = []struct {
	name          string
	index, number int
	bits          []int
}{
	{"mstatus", api.Mstatus, 0x300, []int{1, 3, 5, 7, 8, 11, 12, 18, 19, 20, 21, 22, 38, 39}},
	{"medeleg", api.Medeleg, 0x302, []int{0, 1, 2, 3, 4, 5, 6, 7, 8, 10, 12, 13, 15, 20, 21, 22, 23}},
	{"mideleg", api.Mideleg, 0x303, []int{5, 9}},
	{"mie", api.Mie, 0x304, []int{5, 6, 9, 10}},
	{"mtvec", api.Mtvec, 0x305, from(2)},
	{"stvec", api.Stvec, 0x105, from(2)},
	{"vstvec", api.Vstvec, 0x205, from(2)},
	{"mscratch", api.Mscratch, 0x340, from(0)},
	{"sscratch", api.Sscratch, 0x140, from(0)},
	{"vsscratch", api.Vsscratch, 0x240, from(0)},
	{"mepc", api.Mepc, 0x341, from(2)},
	{"sepc", api.Sepc, 0x141, from(2)},
	{"vsepc", api.Vsepc, 0x241, from(2)},
	{"mcause", api.Mcause, 0x342, from(0)},
	{"scause", api.Scause, 0x142, from(0)},
	{"vscause", api.Vscause, 0x242, from(0)},
	{"mtval", api.Mtval, 0x343, from(0)},
	{"stval", api.Stval, 0x143, from(0)},
	{"vstval", api.Vstval, 0x243, from(0)},
	{"mtval2", api.Mtval2, 0x34b, from(0)},
	{"htval", api.Htval, 0x643, from(0)},
	{"satp", api.Satp, 0x180, []int{0, 1, 2, 3, 4, 5, 6, 7, 16, 17, 18, 19, 20, 21, 22, 23, 63}},
	{"vsatp", api.Vsatp, 0x280, []int{0, 1, 2, 3, 4, 5, 6, 7, 16, 17, 18, 19, 20, 21, 22, 23, 63}},
	{"hgatp", api.Hgatp, 0x680, []int{0, 1, 2, 3, 4, 5, 6, 7, 16, 17, 18, 19, 20, 21, 22, 23, 63}},
	{"hstatus", api.Hstatus, 0x600, []int{6, 7, 8, 9, 20, 21, 22}},
	{"hedeleg", api.Hedeleg, 0x602, []int{0, 1, 2, 3, 4, 5, 6, 7, 8, 12, 13, 15}},
	{"hideleg", api.Hideleg, 0x603, []int{6, 10}},
	{"hvip", api.Hvip, 0x645, []int{6, 10}},
	{"vsstatus", api.Vsstatus, 0x200, []int{1, 5, 8, 18, 19}},
}

// seen: the further numbers that show another register's bits: which bit of it each of theirs is.
var seen = []struct {
	name          string
	index, number int
	bits          map[int]int
}{
	{"sstatus", api.Mstatus, 0x100, map[int]int{1: 1, 5: 5, 8: 8, 18: 18, 19: 19}},
	{"sie", api.Mie, 0x104, map[int]int{5: 5, 9: 9}},
	{"vsie", api.Mie, 0x204, map[int]int{5: 6, 9: 10}},
}

const instret = 0xc02

const full = uint64(math.MaxUint64)

// stands: of the host's numbers, what stands for them in a guest.
var stands = map[int]int{
	0x100: 0x200, 0x104: 0x204, 0x105: 0x205, 0x140: 0x240, 0x141: 0x241, 0x142: 0x242, 0x143: 0x243, 0x180: 0x280,
}

// from: all bits from n on.
func from(n int) []int {
	var out []int
	for i := n; i < 64; i++ {
		out = append(out, i)
	}
	return out
}

func one(i int) uint64 { return uint64(1) << i }

func has(v uint64, i int) bool { return v&one(i) != 0 }

func holds(bits []int, i int) bool {
	for _, b := range bits {
		if b == i {
			return true
		}
	}
	return false
}

// put: v with bit i as on says.
func put(v uint64, i int, on bool) uint64 {
	if on {
		return v | one(i)
	}
	return v &^ one(i)
}

// isNumber: by the tables above.
func isNumber(n int) bool {
	for _, k := range known {
		if k.number == n {
			return true
		}
	}
	for _, k := range seen {
		if k.number == n {
			return true
		}
	}
	return n == instret
}

// strangers: numbers that are none: beside each that is one, below 0, beyond 12 bits, the same in the lowest 12, 16, 32 bits, the ends of int.
func strangers() []int {
	out := []int{
		math.MinInt, math.MinInt + 1, math.MinInt + 0x300, math.MinInt + instret, -0x300, -0x100, -2, -1,
		0, 1, 2, 28, 29, 0xc00, 0xc01, 0xc03, 0xc82, 0x301, 0x306, 0x344, 0x144, 0x244, 0x604, 0x605, 0x644, 0xf14,
		4095, 4096, 4097, 0xffff, 0x10000, 300, 100, 104, 204, math.MaxInt32, math.MaxInt - 1, math.MaxInt,
	}
	beside := func(n int) {
		for _, m := range []int{n - 1, n + 1, n ^ 0x800, n ^ 0x400, -n, n + 0x1000, n + 0x10000, n + 1<<32, n - 0x1000, n - 1<<32} {
			out = append(out, m)
		}
	}
	for _, k := range known {
		beside(k.number)
	}
	for _, k := range seen {
		beside(k.number)
	}
	beside(instret)
	var none []int
	for _, n := range out {
		if !isNumber(n) {
			none = append(none, n)
		}
	}
	return none
}

// noIndex: what is no index.
var noIndex = []int{
	math.MinInt, math.MinInt + 1, math.MinInt + 5, -1 << 32, -256, -29, -2, -1,
	api.CSRs, api.CSRs + 1, 2 * api.CSRs, 64, 255, 256, 0x300, 1 << 32, 1<<32 + 1, math.MaxInt - 1, math.MaxInt,
}

// filled: a state in which each register of control is v, and all that is beside them isn't 0.
func filled(v uint64) api.State {
	s := api.State{PC: 0x1234, Level: api.Super, V: true, Done: 0x8877665544332211}
	for i := range s.X {
		s.X[i] = uint64(i) * 0x0101010101010101
	}
	for i := range s.C {
		s.C[i] = v
	}
	return s
}

// mixed: a state in which no two registers are the same; n makes another one.
func mixed(n uint64) api.State {
	s := filled(0)
	v := n*0x9e3779b97f4a7c15 + 1
	for i := range s.C {
		v ^= v << 13
		v ^= v >> 7
		v ^= v << 17
		s.C[i] = v
	}
	return s
}

func states() []api.State {
	out := []api.State{{}, filled(0), filled(full), filled(0x5555555555555555), filled(0xaaaaaaaaaaaaaaaa)}
	for n := range uint64(6) {
		out = append(out, mixed(n))
	}
	odd := mixed(99)
	odd.Level, odd.V, odd.PC, odd.Done = math.MinInt, false, full, full
	odd.X[0] = 7
	return append(out, odd)
}

func values() []uint64 {
	out := []uint64{0, full, 0x5555555555555555, 0xaaaaaaaaaaaaaaaa, 0x0123456789abcdef, 0xfedcba9876543210}
	for i := range 64 {
		out = append(out, one(i), full&^one(i))
	}
	return out
}

func TestTableIsWhole(t *testing.T) {
	var at [api.CSRs]int
	for _, k := range known {
		at[k.index]++
	}
	for i, n := range at {
		if n != 1 {
			t.Fatalf("the test's table has index %d %d times", i, n)
		}
	}
}

func TestIndexNumber(t *testing.T) {
	for _, k := range known {
		if got := csr.Index(k.number); got != k.index {
			t.Errorf("P8.1: Index(%x), %s: %d, want %d", k.number, k.name, got, k.index)
		}
		if got := csr.Number(k.index); got != k.number {
			t.Errorf("P8.1: Number(%d), %s: %x, want %x", k.index, k.name, got, k.number)
		}
	}
	for i := range api.CSRs {
		if got := csr.Index(csr.Number(i)); got != i {
			t.Errorf("P8.1: %d there and back: %d", i, got)
		}
	}
}

func TestIndexOfNone(t *testing.T) {
	for _, n := range append(strangers(), 0x100, 0x104, 0x204, instret) {
		if got := csr.Index(n); got != -1 {
			t.Errorf("P8.1: Index(%#x): %d, want -1", n, got)
		}
	}
}

func TestIndexOfAllNumbers(t *testing.T) {
	want := map[int]int{}
	for _, k := range known {
		want[k.number] = k.index
	}
	for n := -0x2000; n < 0x20000; n++ {
		i, ok := want[n]
		if !ok {
			i = -1
		}
		if got := csr.Index(n); got != i {
			t.Errorf("P8.1: Index(%#x): %d, want %d", n, got, i)
		}
	}
}

func TestNumberMaskOfNone(t *testing.T) {
	for _, i := range noIndex {
		if got := csr.Number(i); got != -1 {
			t.Errorf("P8.1: Number(%d): %x, want -1", i, got)
		}
		if got := csr.Mask(i); got != 0 {
			t.Errorf("P8.1: Mask(%d): %x, want 0", i, got)
		}
	}
}

func TestMaskBits(t *testing.T) {
	for _, k := range known {
		m := csr.Mask(k.index)
		for i := range 64 {
			if has(m, i) != holds(k.bits, i) {
				t.Errorf("P8.1: Mask of %s: bit %d is %v", k.name, i, has(m, i))
			}
		}
	}
}

func TestReadRegisters(t *testing.T) {
	for _, k := range known {
		for n, s := range states() {
			if got, ok := csr.Read(s, k.number); got != s.C[k.index] || !ok {
				t.Errorf("P8.2: Read %s of state %d: %x, %v, want %x", k.name, n, got, ok, s.C[k.index])
			}
		}
		alone := filled(0)
		alone.C[k.index] = full
		for _, o := range known {
			want := uint64(0)
			if o.index == k.index {
				want = full
			}
			if got, ok := csr.Read(alone, o.number); got != want || !ok {
				t.Errorf("P8.2: Read %s where %s alone is set: %x, %v, want %x", o.name, k.name, got, ok, want)
			}
		}
	}
}

// shows: what a view shows of v, bit by bit.
func shows(bits map[int]int, v uint64) uint64 {
	out := uint64(0)
	for low, there := range bits {
		out = put(out, low, has(v, there))
	}
	return out
}

func TestReadViews(t *testing.T) {
	for _, k := range seen {
		for n, s := range states() {
			want := shows(k.bits, s.C[k.index])
			if got, ok := csr.Read(s, k.number); got != want || !ok {
				t.Errorf("P8.2: Read %s of state %d: %x, %v, want %x", k.name, n, got, ok, want)
			}
		}
		for i := range 64 {
			s := filled(0)
			s.C[k.index] = one(i)
			want := shows(k.bits, one(i))
			if got, ok := csr.Read(s, k.number); got != want || !ok {
				t.Errorf("P8.2: Read %s of bit %d: %x, %v, want %x", k.name, i, got, ok, want)
			}
		}
		others := filled(full)
		others.C[k.index] = 0
		if got, ok := csr.Read(others, k.number); got != 0 || !ok {
			t.Errorf("P8.2: Read %s where all others are set: %x, %v, want 0", k.name, got, ok)
		}
	}
}

func TestReadKnownViews(t *testing.T) {
	s := filled(full)
	for _, c := range []struct {
		number int
		want   uint64
	}{{0x100, 0xc0122}, {0x104, 0x220}, {0x204, 0x220}} {
		if got, ok := csr.Read(s, c.number); got != c.want || !ok {
			t.Errorf("P8.2: Read %x of all ones: %x, %v, want %x", c.number, got, ok, c.want)
		}
	}
	s = filled(0)
	s.C[api.Mie] = 1 << 6
	if got, _ := csr.Read(s, 0x204); got != 1<<5 {
		t.Errorf("P8.2: bit 6 of Mie by 204: %x, want 20", got)
	}
	if got, _ := csr.Read(s, 0x104); got != 0 {
		t.Errorf("P8.2: bit 6 of Mie by 104: %x, want 0", got)
	}
}

func TestInstret(t *testing.T) {
	for _, done := range values() {
		for n, s := range states() {
			s.Done = done
			if got, ok := csr.Read(s, instret); got != done || !ok {
				t.Errorf("P8.2: Read c02 of state %d: %x, %v, want %x", n, got, ok, done)
			}
			for _, v := range []uint64{0, full, done + 1} {
				if got, ok := csr.Write(s, instret, v); got != s || !ok {
					t.Errorf("P8.2: Write of %x to c02, state %d: %v, or it changed something", v, n, ok)
				}
			}
		}
	}
}

func TestNoNumber(t *testing.T) {
	for _, number := range strangers() {
		for n, s := range states() {
			if got, ok := csr.Read(s, number); got != 0 || ok {
				t.Errorf("P8.2: Read %#x of state %d: %x, %v, want 0, false", number, n, got, ok)
			}
			for _, v := range []uint64{0, 1, full} {
				if got, ok := csr.Write(s, number, v); got != s || ok {
					t.Errorf("P8.2: Write %#x, state %d: %v, want false and the state as it was", number, n, ok)
				}
			}
		}
	}
}

// written: what a register that was old is, bit by bit, after v was written to it.
func written(index int, bits []int, old, v uint64) uint64 {
	for _, b := range bits {
		old = put(old, b, has(v, b))
	}
	if index == api.Mstatus && has(old, 12) && !has(old, 11) {
		old = put(old, 12, false)
	}
	return old
}

func TestWriteRegisters(t *testing.T) {
	for _, k := range known {
		for n, s := range states() {
			for _, v := range values() {
				want := s
				want.C[k.index] = written(k.index, k.bits, s.C[k.index], v)
				if got, ok := csr.Write(s, k.number, v); got != want || !ok {
					t.Errorf("P8.2: Write of %x to %s, state %d: %x, %v, want %x (or something else changed)", v, k.name, n, got.C[k.index], ok, want.C[k.index])
				}
			}
		}
	}
}

func TestWriteViews(t *testing.T) {
	for _, k := range seen {
		for n, s := range states() {
			for _, v := range values() {
				want := s
				for low, there := range k.bits {
					want.C[k.index] = put(want.C[k.index], there, has(v, low))
				}
				if got, ok := csr.Write(s, k.number, v); got != want || !ok {
					t.Errorf("P8.2: Write of %x to %s, state %d: %x, %v, want %x (or something else changed)", v, k.name, n, got.C[k.index], ok, want.C[k.index])
				}
			}
		}
	}
}

func TestWriteKnown(t *testing.T) {
	for _, c := range []struct {
		number, index int
		old, v, want  uint64
	}{
		{0x300, api.Mstatus, 0, 2048, 1 << 11},
		{0x300, api.Mstatus, 0, full, 0xc0007c19aa},
		{0x300, api.Mstatus, full, 0, ^uint64(0xc0007c19aa)},
		{0x341, api.Mepc, 0, 0x1007, 0x1004},
		{0x341, api.Mepc, 3, 0x1000, 0x1003},
		{0x180, api.Satp, 0, full, 0x8000000000ff00ff},
		{0x100, api.Mstatus, 0, full, 0xc0122},
		{0x100, api.Mstatus, full, 0, ^uint64(0xc0122)},
		{0x104, api.Mie, 0, full, 0x220},
		{0x104, api.Mie, full, 0, ^uint64(0x220)},
		{0x204, api.Mie, 0, full, 0x440},
		{0x204, api.Mie, full, 0, ^uint64(0x440)},
		{0x204, api.Mie, 0, 1 << 5, 1 << 6},
		{0x204, api.Mie, 0, 1 << 9, 1 << 10},
		{0x204, api.Mie, 0, 1<<6 | 1<<10, 0},
	} {
		s := filled(0x77)
		s.C[c.index] = c.old
		want := s
		want.C[c.index] = c.want
		if got, ok := csr.Write(s, c.number, c.v); got != want || !ok {
			t.Errorf("P8.2: Write of %x to %x over %x: %x, %v, want %x", c.v, c.number, c.old, got.C[c.index], ok, c.want)
		}
	}
}

func TestMPP(t *testing.T) {
	becomes := [4]uint64{0, 1, 0, 3}
	for old := range uint64(4) {
		for mpp := range uint64(4) {
			for _, beside := range []uint64{0, full &^ (3 << 11)} {
				s := filled(0)
				s.C[api.Mstatus] = old << 11
				got, ok := csr.Write(s, 0x300, mpp<<11|beside)
				if v := got.C[api.Mstatus] >> 11 & 3; v != becomes[mpp] || !ok {
					t.Errorf("P8.2: MPP %d written over %d: %d, %v, want %d", mpp, old, v, ok, becomes[mpp])
				}
				if rest := got.C[api.Mstatus] &^ (3 << 11); rest != beside&0xc0007c01aa {
					t.Errorf("P8.2: MPP %d written over %d: beside it %x", mpp, old, rest)
				}
			}
		}
	}
}

// Only Mstatus has MPP, and only what is written to 300 reaches it: the same two bits stay elsewhere.
func TestMPPElsewhere(t *testing.T) {
	for _, k := range known {
		if k.index == api.Mstatus || !holds(k.bits, 11) || !holds(k.bits, 12) {
			continue
		}
		got, ok := csr.Write(filled(0), k.number, 2<<11)
		if got.C[k.index] != 2<<11 || !ok {
			t.Errorf("P8.2: Write of 1000 to %s: %x, %v", k.name, got.C[k.index], ok)
		}
	}
	for mpp := range uint64(4) {
		s := filled(0)
		s.C[api.Mstatus] = mpp << 11
		for _, v := range []uint64{0, full, 1 << 11, 2 << 11, 3 << 11} {
			got, ok := csr.Write(s, 0x100, v)
			if got.C[api.Mstatus]>>11&3 != mpp || !ok {
				t.Errorf("P8.2: Write of %x to 100 over MPP %d: %x, %v", v, mpp, got.C[api.Mstatus], ok)
			}
		}
	}
}

// What is handed in stays: a state is a value, also where its Write was refused.
func TestHandedInStays(t *testing.T) {
	for n, s := range states() {
		before := s
		csr.Write(s, 0x300, full)
		csr.Write(s, 0x204, 0x5555555555555555)
		csr.Write(s, 0x301, full)
		csr.Read(s, 0x300)
		csr.Pending(s, true, true)
		if s != before {
			t.Errorf("state %d was changed", n)
		}
	}
}

func TestWrittenIsRead(t *testing.T) {
	for _, k := range known {
		for _, v := range values() {
			s, _ := csr.Write(filled(0), k.number, v)
			want := written(k.index, k.bits, 0, v)
			if got, ok := csr.Read(s, k.number); got != want || !ok {
				t.Errorf("P8.2: %x written to %s is read as %x, %v, want %x", v, k.name, got, ok, want)
			}
		}
	}
	for _, k := range seen {
		for _, v := range values() {
			s, _ := csr.Write(mixed(3), k.number, v)
			want := uint64(0)
			for low := range k.bits {
				want = put(want, low, has(v, low))
			}
			if got, ok := csr.Read(s, k.number); got != want || !ok {
				t.Errorf("P8.2: %x written to %s is read as %x, %v, want %x", v, k.name, got, ok, want)
			}
		}
	}
}

func TestRedirect(t *testing.T) {
	for host, guest := range stands {
		if got := csr.Redirect(host); got != guest {
			t.Errorf("P8.3: Redirect(%x): %x, want %x", host, got, guest)
		}
		if got := csr.Redirect(guest); got != guest {
			t.Errorf("P8.3: Redirect(%x): %x, want itself", guest, got)
		}
	}
	for n := -0x2000; n < 0x20000; n++ {
		want, ok := stands[n]
		if !ok {
			want = n
		}
		if got := csr.Redirect(n); got != want {
			t.Errorf("P8.3: Redirect(%#x): %#x, want %#x", n, got, want)
		}
	}
	for _, n := range append(strangers(), instret) {
		if got := csr.Redirect(n); got != n {
			t.Errorf("P8.3: Redirect(%#x): %#x, want itself", n, got)
		}
	}
}

func TestPending(t *testing.T) {
	for _, c := range []struct {
		timer, line bool
		bits        []int
	}{
		{false, false, nil},
		{true, false, []int{5}},
		{false, true, []int{9}},
		{true, true, []int{5, 9}},
	} {
		for n, s := range states() {
			for _, hvip := range values() {
				s.C[api.Hvip] = hvip
				want := hvip
				for _, b := range c.bits {
					want = put(want, b, true)
				}
				if got := csr.Pending(s, c.timer, c.line); got != want {
					t.Errorf("P8.3: Pending of %x, %v, %v, state %d: %x, want %x", hvip, c.timer, c.line, n, got, want)
				}
			}
		}
	}
}

// Pending's guest's bits are what a Write to Hvip lets through, whatever else is set.
func TestPendingOfWritten(t *testing.T) {
	for _, c := range []struct{ v, want uint64 }{{0, 0}, {full, 0x440}, {1 << 6, 1 << 6}, {1 << 10, 1 << 10}, {0x220, 0}} {
		s := filled(full)
		s.C[api.Hvip] = 0
		s, _ = csr.Write(s, 0x645, c.v)
		if got := csr.Pending(s, false, false); got != c.want {
			t.Errorf("P8.3: Pending after %x was written to Hvip: %x, want %x", c.v, got, c.want)
		}
	}
}

// owned: of the host's numbers that a guest names, the guest's register and the bits of it that are meant.
var owned = []struct {
	host, index int
	bits        []int
	up          int
}{
	{0x100, api.Vsstatus, []int{1, 5, 8, 18, 19}, 0},
	{0x104, api.Mie, []int{6, 10}, 1},
	{0x105, api.Vstvec, from(2), 0},
	{0x140, api.Vsscratch, from(0), 0},
	{0x141, api.Vsepc, from(2), 0},
	{0x142, api.Vscause, from(0), 0},
	{0x143, api.Vstval, from(0), 0},
	{0x180, api.Vsatp, []int{0, 1, 2, 3, 4, 5, 6, 7, 16, 17, 18, 19, 20, 21, 22, 23, 63}, 0},
}

func TestGuestWritesItsOwn(t *testing.T) {
	for _, o := range owned {
		for n, s := range states() {
			for _, v := range values() {
				want := s
				for _, b := range o.bits {
					want.C[o.index] = put(want.C[o.index], b, has(v<<o.up, b))
				}
				got, ok := csr.Write(s, csr.Redirect(o.host), v)
				if got != want || !ok {
					t.Errorf("P8.4: a guest's write of %x to %x, state %d: %v, or not its own register alone", v, o.host, n, ok)
				}
				was, _ := csr.Read(s, o.host)
				if is, _ := csr.Read(got, o.host); is != was {
					t.Errorf("P8.4: a guest's write of %x to %x: the host's was %x, is %x", v, o.host, was, is)
				}
			}
		}
	}
}

func TestGuestReadsItsOwn(t *testing.T) {
	for _, o := range owned {
		hosts, guests := filled(full), filled(0)
		hosts.C[o.index] = 0
		guests.C[o.index] = full
		if got, ok := csr.Read(hosts, csr.Redirect(o.host)); got != 0 || !ok {
			t.Errorf("P8.4: a guest reads %x of %x where its own is 0 (%v)", got, o.host, ok)
		}
		want := full
		if o.index == api.Mie {
			want = 0x220
		}
		if got, ok := csr.Read(guests, csr.Redirect(o.host)); got != want || !ok {
			t.Errorf("P8.4: a guest reads %x of %x, want its own, %x (%v)", got, o.host, want, ok)
		}
	}
}

// The other way round: what the host writes under these numbers no guest reads.
func TestHostWritesItsOwn(t *testing.T) {
	for _, o := range owned {
		for n, s := range states() {
			was, _ := csr.Read(s, csr.Redirect(o.host))
			for _, v := range []uint64{0, full} {
				h, ok := csr.Write(s, o.host, v)
				if is, _ := csr.Read(h, csr.Redirect(o.host)); is != was || !ok {
					t.Errorf("P8.4: the host's write of %x to %x, state %d: the guest's was %x, is %x", v, o.host, n, was, is)
				}
			}
		}
	}
}
