package trap_test

import (
	"math"
	"strconv"
	"testing"

	"sallyport/api"
	"sallyport/trap"
)

const all = uint64(math.MaxUint64)

var levels = []int{api.User, api.Super, api.Machine}

// noLevels: levels that are none of the three.
var noLevels = []int{math.MinInt, math.MinInt + 1, -1 << 32, -4, -3, -2, -1, 2, 4, 5, 6, 7, 257, 1 << 32, 1<<32 + 1, 1<<32 + 3, math.MaxInt - 1, math.MaxInt}

var both = []bool{false, true}

// has, put: a bit at a time, so that no field's place is shared with the program.
func has(v uint64, n int) bool { return v&(1<<n) != 0 }

func put(v *uint64, n int, on bool) {
	*v &^= 1 << n
	if on {
		*v |= 1 << n
	}
}

// bits: those that a trap or a return asks or sets.
var bits = []struct{ index, bit int }{
	{api.Mstatus, 1}, {api.Mstatus, 3}, {api.Mstatus, 5}, {api.Mstatus, 7}, {api.Mstatus, 8}, {api.Mstatus, 11}, {api.Mstatus, 12}, {api.Mstatus, 38}, {api.Mstatus, 39},
	{api.Hstatus, 6}, {api.Hstatus, 7}, {api.Hstatus, 8},
	{api.Vsstatus, 1}, {api.Vsstatus, 5}, {api.Vsstatus, 8},
}

// withBits: s with the bits above as those of set are.
func withBits(s api.State, set int) api.State {
	for n, b := range bits {
		put(&s.C[b.index], b.bit, set>>n&1 != 0)
	}
	return s
}

// own: every register of it holds a value of its own.
func own(level int, v bool) api.State {
	s := api.State{PC: 0x123456789abcde04, Level: level, V: v, Done: 0x0f0e0d0c0b0a0908}
	for i := range s.X {
		s.X[i] = 0xabc0000000000000 + uint64(i)*0x10101010101
	}
	for i := range s.C {
		s.C[i] = (uint64(i) + 3) * 0x9e3779b97f4a7c15
	}
	return lawful(s)
}

// lawful: nothing is taken from supervisors that would keep them from returning.
func lawful(s api.State) api.State {
	put(&s.C[api.Mstatus], 22, false)
	put(&s.C[api.Hstatus], 22, false)
	return s
}

// full: all that can be set is set.
func full(level int, v bool) api.State {
	s := api.State{PC: all, Level: level, V: v, Done: all}
	for i := range s.X {
		s.X[i] = all
	}
	for i := range s.C {
		s.C[i] = all
	}
	return s
}

// around: states of that level, with V or without it, that have all the rest as unlike as can be.
func around(level int, v bool) []api.State {
	return []api.State{{Level: level, V: v}, full(level, v), own(level, v)}
}

var faults = []api.Fault{
	{},
	{Cause: api.GuestLoad, Value: 0xfedcba9876543210, Place: 0x1357913579135791, GVA: true},
	{Cause: api.Illegal, Value: 0x2468, Place: 0x77},
	{Cause: api.TopBit | 9},
	{Cause: all, Value: all, Place: all, GVA: true},
}

// way: into a trap: who takes it, where it was and where it goes on by which register.
type way struct {
	name        string
	level       int
	v           bool
	epc, vector int
}

var ways = []way{
	{"the machine", api.Machine, false, api.Mepc, api.Mtvec},
	{"the supervisor", api.Super, false, api.Sepc, api.Stvec},
	{"the guest's", api.Super, true, api.Vsepc, api.Vstvec},
}

// entered: P16.1, word by word.
func entered(s api.State, f api.Fault, level int, v bool) api.State {
	w := s
	switch {
	case level == 3 && !v:
		w.C[api.Mepc], w.C[api.Mcause], w.C[api.Mtval], w.C[api.Mtval2] = s.PC, f.Cause, f.Value, f.Place
		put(&w.C[api.Mstatus], 11, s.Level&1 != 0)
		put(&w.C[api.Mstatus], 12, s.Level&2 != 0)
		put(&w.C[api.Mstatus], 39, s.V)
		put(&w.C[api.Mstatus], 38, f.GVA)
		put(&w.C[api.Mstatus], 7, has(s.C[api.Mstatus], 3))
		put(&w.C[api.Mstatus], 3, false)
		w.V, w.PC, w.Level = false, s.C[api.Mtvec], 3
	case level == 1 && !v:
		w.C[api.Sepc], w.C[api.Scause], w.C[api.Stval], w.C[api.Htval] = s.PC, f.Cause, f.Value, f.Place
		put(&w.C[api.Mstatus], 8, s.Level&1 != 0)
		put(&w.C[api.Mstatus], 5, has(s.C[api.Mstatus], 1))
		put(&w.C[api.Mstatus], 1, false)
		put(&w.C[api.Hstatus], 7, s.V)
		put(&w.C[api.Hstatus], 6, f.GVA)
		if s.V {
			put(&w.C[api.Hstatus], 8, s.Level&1 != 0)
		}
		w.V, w.PC, w.Level = false, s.C[api.Stvec], 1
	case level == 1 && s.V:
		w.C[api.Vsepc], w.C[api.Vscause], w.C[api.Vstval] = s.PC, f.Cause, f.Value
		put(&w.C[api.Vsstatus], 8, s.Level&1 != 0)
		put(&w.C[api.Vsstatus], 5, has(s.C[api.Vsstatus], 1))
		put(&w.C[api.Vsstatus], 1, false)
		w.PC, w.Level = s.C[api.Vstvec], 1
	}
	return w
}

// returned: what a return answers.
type returned struct {
	s     api.State
	cause uint64
	ok    bool
}

// mretBack: P16.2 of Mret, word by word.
func mretBack(s api.State) returned {
	if s.Level == 0 || s.Level == 1 {
		return returned{s, 2, false}
	}
	w := s
	w.Level = 0
	if has(s.C[api.Mstatus], 11) {
		w.Level++
	}
	if has(s.C[api.Mstatus], 12) {
		w.Level += 2
	}
	w.V = has(s.C[api.Mstatus], 39) && w.Level != 3
	put(&w.C[api.Mstatus], 3, has(s.C[api.Mstatus], 7))
	put(&w.C[api.Mstatus], 7, true)
	put(&w.C[api.Mstatus], 11, false)
	put(&w.C[api.Mstatus], 12, false)
	put(&w.C[api.Mstatus], 39, false)
	w.PC = s.C[api.Mepc]
	return returned{w, 0, true}
}

// sretBack: P16.2 of Sret, word by word.
func sretBack(s api.State) returned {
	switch {
	case s.Level == 0 && !s.V, s.Level == 1 && !s.V && has(s.C[api.Mstatus], 22):
		return returned{s, 2, false}
	case s.Level == 0, s.Level == 1 && s.V && has(s.C[api.Hstatus], 22):
		return returned{s, 22, false}
	}
	w := s
	status := api.Mstatus
	w.PC = s.C[api.Sepc]
	if s.V {
		status = api.Vsstatus
		w.PC = s.C[api.Vsepc]
	} else {
		w.V = has(s.C[api.Hstatus], 7)
		put(&w.C[api.Hstatus], 7, false)
	}
	w.Level = 0
	if has(s.C[status], 8) {
		w.Level = 1
	}
	put(&w.C[status], 1, has(s.C[status], 5))
	put(&w.C[status], 5, true)
	put(&w.C[status], 8, false)
	return returned{w, 0, true}
}

// ret: a return, and what is wanted of it.
type ret struct {
	name string
	call func(api.State) (api.State, uint64, bool)
	want func(api.State) returned
}

var (
	mret = ret{"Mret", trap.Mret, mretBack}
	sret = ret{"Sret", trap.Sret, sretBack}
	rets = []ret{mret, sret}
)

// unlike: where two states differ, got's and want's, as far as is told; "" where nowhere.
func unlike(got, want api.State) string {
	if got == want {
		return ""
	}
	out := ""
	tell := func(what string, a, b uint64) {
		if a != b {
			out += " " + what + " " + strconv.FormatUint(a, 16) + ", want " + strconv.FormatUint(b, 16) + ";"
		}
	}
	tell("PC", got.PC, want.PC)
	tell("Level", uint64(got.Level), uint64(want.Level))
	tell("Done", got.Done, want.Done)
	for i := range got.X {
		tell("x"+strconv.Itoa(i), got.X[i], want.X[i])
	}
	for i := range got.C {
		tell("C["+strconv.Itoa(i)+"]", got.C[i], want.C[i])
	}
	if got.V != want.V {
		out += " V " + strconv.FormatBool(got.V) + ";"
	}
	return out
}

// mustEnter: Enter's answer is want, the state that was handed in stays.
func mustEnter(t *testing.T, what string, s api.State, f api.Fault, level int, v bool, want api.State) {
	t.Helper()
	was := s
	if d := unlike(trap.Enter(s, f, level, v), want); d != "" {
		t.Errorf("P16.1: %s: Enter of %d, %v from %d, %v:%s", what, level, v, s.Level, s.V, d)
	}
	if s != was {
		t.Errorf("P16.1: %s: the state that was handed in changed:%s", what, unlike(s, was))
	}
}

// mustReturn: r's answer is want, the state that was handed in stays.
func mustReturn(t *testing.T, what string, r ret, s api.State, want returned) {
	t.Helper()
	was := s
	got, cause, ok := r.call(s)
	if d := unlike(got, want.s); d != "" || cause != want.cause || ok != want.ok {
		t.Errorf("P16.2: %s: %s at %d, %v: %d, %v, want %d, %v;%s", what, r.name, s.Level, s.V, cause, ok, want.cause, want.ok, d)
	}
	if s != was {
		t.Errorf("P16.2: %s: the state that was handed in changed:%s", what, unlike(s, was))
	}
}
